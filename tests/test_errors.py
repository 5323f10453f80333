import unittest

from likepanes import errors

BASES = (("BadValue", ValueError), ("BadName", LookupError), ("NoAnswer", ArithmeticError))

CLASSES = (
    ("BadValue", ("given",), (
        "InvalidText", "InvalidFraction", "InvalidNumber", "InvalidScale", "InvalidTree", "InvalidCount",
        "InvalidWay", "InvalidName", "InvalidIndex", "InvalidClaim", "NotAShape",
    )),
    ("BadValue", ("index",), ("InvalidEquation", "InvalidCutting")),
    ("BadName", ("given",), ("UnknownName",)),
    ("BadName", ("index",), ("InUse",)),
    ("NoAnswer", (), ("NoRoot", "NoQuotient", "NotPositive", "NotFilled", "Outside", "NothingToUndo")),
    ("NoAnswer", ("limit",), ("TooMany",)),
    ("NoAnswer", ("index",), ("Overlaps",)),
    ("NoAnswer", ("index", "shown"), ("Broken",)),
)

VALUES = (
    None, 0, True, "", "text", (), (1, "a"), [1], {"a": 1}, object(), 10 ** 400, 10 ** 5000, -(10 ** 5000),
    (((10 ** 5000,),),), ValueError("x"),
)


def each_class():
    for base, names, classes in CLASSES:
        for title in classes:
            yield base, names, title


class Errors(unittest.TestCase):
    def test_bases_stand_under_errors_of_python_only(self):
        for title, above in BASES:
            with self.subTest(title=title):
                made = getattr(errors, title)
                self.assertEqual(made.__bases__, (above,))
                self.assertIsInstance(made(), above)

    def test_each_class_stands_under_its_base_alone(self):
        for base, _, title in each_class():
            with self.subTest(title=title):
                made = getattr(errors, title)
                own = [part.__name__ for part in made.__mro__ if part.__module__.split(".")[0] == "likepanes"]
                self.assertEqual(own, [title, base])
                self.assertEqual(made.__module__, "likepanes.errors")

    def test_there_are_no_other_classes(self):
        told = sorted([title for title, _ in BASES] + [title for _, _, title in each_class()])
        found = sorted(title for title, value in vars(errors).items() if isinstance(value, type))
        self.assertEqual(found, told)

    def test_attributes_are_set_by_place_and_by_name(self):
        for _, names, title in each_class():
            made = getattr(errors, title)
            for value in VALUES:
                values = [value, (value, "other")][:len(names)]
                for error in (made(*values), made(**dict(zip(names, values)))):
                    with self.subTest(title=title, kind=type(value)):
                        for name, set_value in zip(names, values):
                            self.assertIs(getattr(error, name), set_value)
                        self.assertIsInstance(str(error), str)
                        self.assertTrue(error)

    def test_attributes_come_in_the_order_told(self):
        error = errors.Broken(3, "seen")
        self.assertEqual((error.index, error.shown), (3, "seen"))
        error = errors.Broken(shown=None, index=None)
        self.assertEqual((error.index, error.shown), (None, None))

    def test_nothing_more_and_nothing_less_is_taken(self):
        for _, names, title in each_class():
            with self.subTest(title=title):
                made = getattr(errors, title)
                with self.assertRaises(TypeError):
                    made(*[1] * (len(names) + 1))
                if names:
                    with self.assertRaises(TypeError):
                        made()

    def test_errors_can_be_caught_by_their_bases(self):
        for base, names, title in each_class():
            with self.subTest(title=title):
                made = getattr(errors, title)
                with self.assertRaises(getattr(errors, base)):
                    raise made(*[1] * len(names))
                with self.assertRaises(dict(BASES)[base]):
                    raise made(*[1] * len(names))

    def test_two_errors_are_not_equal(self):
        self.assertFalse(errors.NoRoot() == errors.NoRoot())
        self.assertTrue(errors.InvalidText("x") != errors.InvalidText("x"))


if __name__ == "__main__":
    unittest.main()

import unittest

from known import ODD_VALUES, narrowed, shapes
from likepanes.errors import NotAShape
from likepanes.shapes import Shape, alike, less

# The less shape stands ahead. Those from the third pair on agree in 60 to 90 binary digits.
CLOSE = (
    ("root 1 of -2 0 1", "root 0 of -577 408"),
    ("root 0 of -239 169", "root 1 of -2 0 1"),
    ("root 0 of -996 999 -10 10 -5 1", "root 0 of -995 994"),
    ("root 1 of -1 1000 1 0 1", "root 0 of -1 1000 1 0 0 1000"),
    ("root 1 of -1 1000 0 1 1", "root 0 of -1 1000 0 1 0 1000"),
    ("root 1 of -1 1000 0 0 1", "root 0 of -1 1000 0 0 0 1000"),
    ("root 0 of -1000 0 0 0 -1000 1", "root 1 of -1 0 0 -1000 1"),
)

# The one is 1 by the other.
TURNED = (
    ("root 0 of -3 2", "root 0 of -2 3"),
    ("root 0 of -1000 1", "root 0 of -1 1000"),
    ("root 0 of 2 -4 1", "root 1 of 1 -4 2"),
    ("root 1 of 2 -4 1", "root 0 of 1 -4 2"),
    ("root 1 of -2 0 1", "root 1 of -1 0 2"),
    ("root 1 of -1 -1 1", "root 1 of -1 1 1"),
    ("root 0 of 1 -3 1", "root 1 of 1 -3 1"),
    ("root 1 of -1 1000 3", "root 1 of -3 -1000 1"),
    ("root 0 of -2 0 0 1", "root 0 of -1 0 0 2"),
    ("root 1 of 1 -3 0 1", "root 2 of 1 0 -3 1"),
    ("root 2 of 1 -3 0 1", "root 1 of 1 0 -3 1"),
    ("root 2 of 1 0 -10 0 1", "root 3 of 1 0 -10 0 1"),
    ("root 2 of -1 3 3 -4 -1 1", "root 4 of -1 1 4 -3 -3 1"),
    ("root 3 of -1 3 3 -4 -1 1", "root 3 of -1 1 4 -3 -3 1"),
    ("root 4 of -1 3 3 -4 -1 1", "root 2 of -1 1 4 -3 -3 1"),
    ("root 1 of -1 1000 0 0 1", "root 1 of -1 0 0 -1000 1"),
    ("root 0 of -1 1000 0 0 0 1000", "root 0 of -1000 0 0 0 -1000 1"),
)

# Neither the same number nor 1 by the other, though something about them is alike.
UNLIKE = (
    ("root 1 of 2 -4 1", "root 0 of 2 -4 1"),
    ("root 1 of 2 -4 1", "root 1 of 1 -4 2"),
    ("root 0 of 2 -4 1", "root 0 of 1 -4 2"),
    ("root 0 of -3 2", "root 0 of -3 1"),
    ("root 0 of -3 2", "root 0 of -3 4"),
    ("root 1 of -2 0 1", "root 1 of -3 0 1"),
    ("root 1 of 1 -3 0 1", "root 2 of 1 -3 0 1"),
    ("root 1 of 1 -3 0 1", "root 1 of 1 0 -3 1"),
    ("root 2 of 1 -3 0 1", "root 2 of 1 0 -3 1"),
    ("root 2 of -1 3 3 -4 -1 1", "root 2 of -1 1 4 -3 -3 1"),
    ("root 1 of -1 1000 0 0 1", "root 0 of -1 1000 0 0 0 1000"),
    ("root 1 of -1 1000 0 0 1", "root 0 of -1000 0 0 0 -1000 1"),
    ("root 0 of -577 408", "root 1 of -2 0 1"),
)


class Less(unittest.TestCase):
    def test_all_pairs(self):
        known = [(shape, narrowed(shape, low, high, 200)) for shape, low, high in shapes()]
        for one, (low, _) in known:
            for other, (_, high) in known:
                with self.subTest(one=one.text, other=other.text):
                    self.assertIs(less(one, other), one.text != other.text and low < high)

    def test_roots_of_one_equation(self):
        for texts in (
            ("root 0 of 2 -4 1", "root 1 of 2 -4 1"),
            ("root 1 of 1 -3 0 1", "root 2 of 1 -3 0 1"),
            ("root 2 of 1 0 -10 0 1", "root 3 of 1 0 -10 0 1"),
            ("root 2 of -1 3 3 -4 -1 1", "root 3 of -1 3 3 -4 -1 1", "root 4 of -1 3 3 -4 -1 1"),
            ("root 0 of -999 1000", "root 0 of -1 1", "root 0 of -1000 999"),
        ):
            for at, one in enumerate(texts):
                for place, other in enumerate(texts):
                    with self.subTest(one=one, other=other):
                        self.assertIs(less(Shape(one), Shape(other)), at < place)

    def test_shapes_that_are_close(self):
        for low, high in CLOSE:
            with self.subTest(low=low, high=high):
                self.assertIs(less(Shape(low), Shape(high)), True)
                self.assertIs(less(Shape(high), Shape(low)), False)
                self.assertIs(less(Shape(low), Shape(low)), False)

    def test_arguments_by_name(self):
        slim, wide = Shape("root 0 of 2 -4 1"), Shape("root 1 of 2 -4 1")
        self.assertIs(less(other=wide, one=slim), True)
        self.assertIs(less(one=wide, other=slim), False)


class Alike(unittest.TestCase):
    def test_each_shape_has_the_panes_of_its_own(self):
        for shape, _, _ in shapes():
            with self.subTest(text=shape.text):
                self.assertIs(alike(shape, shape), True)
                self.assertIs(alike(shape, Shape(shape.text)), True)

    def test_shapes_whose_product_is_1(self):
        for one, other in TURNED:
            with self.subTest(one=one, other=other):
                self.assertIs(alike(Shape(one), Shape(other)), True)
                self.assertIs(alike(Shape(other), Shape(one)), True)

    def test_other_shapes(self):
        for one, other in UNLIKE:
            with self.subTest(one=one, other=other):
                self.assertIs(alike(Shape(one), Shape(other)), False)
                self.assertIs(alike(Shape(other), Shape(one)), False)

    def test_all_pairs(self):
        same = {(one, other) for one, other in TURNED} | {(other, one) for one, other in TURNED}
        texts = sorted({text for pair in TURNED + UNLIKE for text in pair} | {shape.text for shape, _, _ in shapes()})
        made = {text: Shape(text) for text in texts}
        for one in texts:
            for other in texts:
                wanted = one == other or (one, other) in same
                self.assertIs(alike(made[one], other=made[other]), wanted, (one, other))


class Errors(unittest.TestCase):
    def test_what_is_no_shape(self):
        shape = Shape("root 0 of -3 2")
        for function in (less, alike):
            for value in (*ODD_VALUES, "root 0 of -3 2", (-3, 2), (1, 3, 2), Shape, function):
                with self.subTest(function=function.__name__, value=repr(value)[:40]):
                    self.assert_no_shape(value, lambda: function(value, shape))
                    self.assert_no_shape(value, lambda: function(shape, value))
                    self.assert_no_shape(value, lambda: function(one=value, other=shape))
                    self.assert_no_shape(value, lambda: function(other=value, one=shape))

    def test_the_first_one_counts(self):
        for function in (less, alike):
            first, second = [1], [2]
            self.assert_no_shape(first, lambda: function(first, second))
            self.assert_no_shape(first, lambda: function(other=second, one=first))

    def assert_no_shape(self, value, call):
        with self.assertRaises(NotAShape) as caught:
            call()
        self.assertIs(caught.exception.given, value)


class Equality(unittest.TestCase):
    def test_two_are_equal_if_their_texts_are(self):
        texts = sorted({text for pair in TURNED + UNLIKE + CLOSE for text in pair})
        made, again = [Shape(text) for text in texts], [Shape(text) for text in texts]
        for at, one in enumerate(made):
            for place, other in enumerate(again):
                self.assertIs(one == other, at == place)
                self.assertIs(one != other, at != place)
        self.assertEqual(Shape.of((4, -10, 6, -1), (3, 1), (4, 1)), Shape("root 1 of 2 -4 1"))

    def test_no_other_value_is_equal(self):
        shape = Shape("root 0 of -1 1")
        for value in (*ODD_VALUES, shape.text, shape.equation, shape.rank, 1, (1, 1), (1, 0, 1), Shape):
            with self.subTest(value=repr(value)[:40]):
                self.assertIs(shape == value, False)
                self.assertIs(value == shape, False)
                self.assertIs(shape != value, True)
                self.assertIs(value != shape, True)
        self.assertIn(shape, [None, Shape(shape.text)])
        self.assertNotIn(shape, [None, shape.text])

    def test_a_shape_is_true(self):
        self.assertTrue(Shape("root 0 of -1 1"))

    def test_its_string_is_its_text(self):
        for shape, _, _ in shapes():
            self.assertEqual(str(shape), shape.text)
            self.assertEqual(f"{shape}", shape.text)
            self.assertIs(type(str(shape)), str)


class Properties(unittest.TestCase):
    def test_kinds_of_values(self):
        for shape, low, high in shapes():
            for made in (shape, Shape.of(shape.equation, low, high)):
                with self.subTest(text=made.text):
                    self.assertIs(type(made.text), str)
                    self.assertIs(type(made.rank), int)
                    self.assertIs(type(made.degree), int)
                    self.assertIs(type(made.equation), tuple)
                    self.assertEqual({type(term) for term in made.equation}, {int})
                    self.assertEqual(made.degree, len(made.equation) - 1)

    def test_objects_stay_as_they_are(self):
        shape = Shape("root 1 of 2 -4 1")
        for title in ("text", "equation", "degree", "rank"):
            with self.assertRaises(AttributeError):
                setattr(shape, title, 1)
        self.assertEqual((shape.text, shape.equation, shape.degree, shape.rank), ("root 1 of 2 -4 1", (2, -4, 1), 2, 1))


if __name__ == "__main__":
    unittest.main()

import unittest
from itertools import product

from known import ODD_VALUES, STRETCHES, times
from likepanes.errors import InvalidEquation, InvalidFraction, NoRoot, TooMany
from likepanes.shapes import Shape

# Each with the text of the one root in the stretch.
FOUND = (
    # the examples of the document
    ((2, -4, 1), (3, 1), (4, 1), "root 1 of 2 -4 1"),
    ((4, -10, 6, -1), (3, 1), (4, 1), "root 1 of 2 -4 1"),
    ((-2, 0, 1), (1, 1), (2, 1), "root 1 of -2 0 1"),
    ((-1, 2, -2, 1), (1, 2), (3, 2), "root 0 of -1 1"),
    # degree 1, also at the ends of the stretch
    ((-3, 2), (0, 1), (5, 1), "root 0 of -3 2"),
    ((-3, 2), (3, 2), (5, 1), "root 0 of -3 2"),
    ((-3, 2), (0, 1), (3, 2), "root 0 of -3 2"),
    ((-3, 2), (3, 2), (3, 2), "root 0 of -3 2"),
    ((3, -2), (1, 1), (2, 1), "root 0 of -3 2"),
    ((600, -400), (1, 1), (2, 1), "root 0 of -3 2"),
    ((-1000, 1), (1000, 1), (1000, 1), "root 0 of -1000 1"),
    ((-1, 1000), (1, 1000), (1, 1000), "root 0 of -1 1000"),
    ((-1000, 999), (1, 1), (2, 1), "root 0 of -1000 999"),
    # a common divisor, a last term below 0
    ((1000, -1000), (0, 1), (2, 1), "root 0 of -1 1"),
    ((-4, 8, -2), (3, 1), (4, 1), "root 1 of 2 -4 1"),
    ((4, -8, 2), (0, 1), (1, 1), "root 0 of 2 -4 1"),
    ((1000, 0, -500), (0, 1), (2, 1), "root 1 of -2 0 1"),
    # roots met several times
    ((1, -2, 1), (0, 1), (2, 1), "root 0 of -1 1"),
    ((1, -2, 1), (1, 1), (1, 1), "root 0 of -1 1"),
    ((-1, 3, -3, 1), (1, 1), (2, 1), "root 0 of -1 1"),
    ((1, -5, 10, -10, 5, -1), (0, 1), (1, 1), "root 0 of -1 1"),
    ((4, 0, -4, 0, 1), (0, 1), (2, 1), "root 1 of -2 0 1"),
    ((-12, 4, 12, -4, -3, 1), (1, 1), (2, 1), "root 1 of -2 0 1"),
    ((-12, 4, 12, -4, -3, 1), (2, 1), (3, 1), "root 0 of -3 1"),
    # 0 is a root, too, but is not above 0
    ((0, -1, 1), (0, 1), (1, 1), "root 0 of -1 1"),
    ((0, 0, -3, 2), (0, 1), (2, 1), "root 0 of -3 2"),
    ((0, -2, 0, 1), (0, 1), (2, 1), "root 1 of -2 0 1"),
    ((0, 0, 0, 0, -1000, 1), (0, 1), (1000, 1), "root 0 of -1000 1"),
    # products with roots outside of the stretch, below 0, or with none that is real
    ((-1, 0, 1), (0, 1), (1, 1), "root 0 of -1 1"),
    ((-1, 0, 0, 1), (0, 1), (9, 1), "root 0 of -1 1"),
    ((-1, 0, 0, 0, 1), (1, 2), (9, 1), "root 0 of -1 1"),
    ((-6, 0, 1, 0, 1), (1, 1), (2, 1), "root 1 of -2 0 1"),
    ((6, 0, -5, 0, 1), (3, 2), (2, 1), "root 1 of -3 0 1"),
    ((6, 0, -5, 0, 1), (1, 1), (3, 2), "root 1 of -2 0 1"),
    ((6, -5, 1), (2, 1), (5, 2), "root 0 of -2 1"),
    ((6, -5, 1), (5, 2), (3, 1), "root 0 of -3 1"),
    ((15, -16, 4), (3, 2), (2, 1), "root 0 of -3 2"),
    ((15, -16, 4), (2, 1), (5, 2), "root 0 of -5 2"),
    ((2, -2, 0, -1, 1), (1, 1), (1, 1), "root 0 of -1 1"),
    ((2, -2, 0, -1, 1), (10, 9), (2, 1), "root 0 of -2 0 0 1"),
    ((4, 0, -2, -2, 0, 1), (1, 1), (4, 3), "root 0 of -2 0 0 1"),
    ((4, 0, -2, -2, 0, 1), (4, 3), (2, 1), "root 1 of -2 0 1"),
    ((-2, 0, 0, 0, 0, 1), (0, 1), (1000, 1), "root 0 of -2 0 0 0 0 1"),
    # several real roots of the same least equation
    ((1, -3, 0, 1), (0, 1), (1, 1), "root 1 of 1 -3 0 1"),
    ((1, -3, 0, 1), (1, 1), (2, 1), "root 2 of 1 -3 0 1"),
    ((1, 0, -10, 0, 1), (0, 1), (1, 1), "root 2 of 1 0 -10 0 1"),
    ((1, 0, -10, 0, 1), (1, 1), (1000, 1), "root 3 of 1 0 -10 0 1"),
    ((1, -5, 0, 0, 0, 1), (0, 1), (1, 1), "root 1 of 1 -5 0 0 0 1"),
    ((1, -5, 0, 0, 0, 1), (1, 1), (10 ** 399, 1), "root 2 of 1 -5 0 0 0 1"),
    ((1, -1000, 1), (0, 1), (1, 1), "root 0 of 1 -1000 1"),
    ((1, -1000, 1), (999, 1), (1000, 1), "root 1 of 1 -1000 1"),
    ((-1, 1000, 1000), (0, 1), (1, 1), "root 1 of -1 1000 1000"),
    # a factor has terms beyond 1000, but not the one whose root is asked
    ((1, -1000, -500, -1, 500, 1000), (1, 1), (1, 1), "root 0 of -1 1"),
    # ends close to the root, with many digits
    ((-2, 0, 1), (1414213562373095048801688724209698078569, 10 ** 39), (3, 2), "root 1 of -2 0 1"),
    ((-2, 0, 1), (1, 1), (141421356237309504880168872420969807857, 10 ** 38), "root 1 of -2 0 1"),
)

NOT_ONE = (
    # none at all, or none there
    ((-3, 2), (0, 1), (1, 1)), ((-3, 2), (0, 1), (1499, 1000)), ((-3, 2), (1501, 1000), (9, 1)), ((3, 2), (0, 1), (9, 1)),
    ((1, 0, 1), (0, 1), (9, 1)), ((2, 4, 1), (0, 1), (9, 1)), ((-2, 0, 1), (0, 1), (1, 1)), ((-2, 0, 1), (3, 2), (3, 2)),
    ((-2, 0, 1), (1, 1), (1, 1)), ((1, 0, 0, 0, 1), (0, 1), (9, 1)), ((1, 1, 1, 1, 1, 1), (0, 1), (9, 1)),
    ((-2, 0, 1), (1, 1), (1414213562373095048801688724209698078569, 10 ** 39)),
    ((-2, 0, 1), (141421356237309504880168872420969807857, 10 ** 38), (2, 1)),
    # only 0
    ((0, 1), (0, 1), (0, 1)), ((0, 1), (0, 1), (9, 1)), ((0, 0, 1), (0, 1), (9, 1)), ((0, -1, 1), (0, 1), (1, 2)),
    ((0, -1, 1), (0, 1), (0, 1)), ((0, 2, 1), (0, 1), (9, 1)), ((0, 0, 0, 0, 0, 1), (0, 1), (9, 1)),
    ((-1, 1), (0, 1), (0, 1)),
    # several, also at both ends
    ((6, -5, 1), (2, 1), (3, 1)), ((6, -5, 1), (0, 1), (9, 1)), ((2, -4, 1), (0, 1), (4, 1)), ((1, -3, 0, 1), (0, 1), (2, 1)),
    ((15, -16, 4), (3, 2), (5, 2)), ((6, 0, -5, 0, 1), (1, 1), (2, 1)), ((4, -10, 6, -1), (1, 1), (4, 1)),
    ((2, -2, 0, -1, 1), (1, 1), (2, 1)), ((1, 0, -10, 0, 1), (0, 1), (4, 1)),
    ((36, -60, 37, -10, 1), (2, 1), (3, 1)),
    # a factor has terms beyond 1000, but there is not just one root
    ((1, -1000, -500, -1, 500, 1000), (0, 1), (1, 1)), ((-1, 1000, 1, -500, 1000, 500), (1, 1), (9, 1)),
    ((500, 0, -1000, 999, 999, -500), (0, 1), (2, 1)),
)

BEYOND = (
    # x + 1 times -1 1001 -1000 500 500, times -500 500 500 -1499 500, times 500 -1000 1 -1001 1000
    ((-1, 1000, 1, -500, 1000, 500), (0, 1), (1, 1)),
    ((500, 0, -1000, 999, 999, -500), (2, 1), (3, 1)),
    ((-500, 500, 999, 1000, 1, -1000), (0, 1), (1, 1)),
    ((-500, 500, 999, 1000, 1, -1000), (1, 1), (2, 1)),
    # x - 1 times -1 999 1499 1500 1000
    ((1, -1000, -500, -1, 500, 1000), (0, 1), (1, 2)),
    # 1 + x + x x times 1 499 -1499 500
    ((-1, -500, 999, 500, 999, -500), (2, 1), (3, 1)),
)

# Least equations, some with a root above 0 and a stretch without a root of another one.
PARTS = (
    ((-1, 1), "root 0 of -1 1", (3, 4), (5, 4)),
    ((-5, 2), "root 0 of -5 2", (9, 4), (11, 4)),
    ((-4, 1), "root 0 of -4 1", (4, 1), (4, 1)),
    ((-3, 0, 1), "root 1 of -3 0 1", (17, 10), (9, 5)),
    ((-1, -1, 1), "root 1 of -1 -1 1", (8, 5), (33, 20)),
    ((-10, 0, 0, 3), "root 0 of -10 0 0 3", (7, 5), (3, 2)),
    ((-30, 1, 0, 3), "root 0 of -30 1 0 3", (2, 1), (11, 5)),
    ((1, 1, 1), None, None, None),
    ((2, 1), None, None, None),
    ((3, 0, 2), None, None, None),
    ((0, 1), None, None, None),
)

WRONG_EQUATIONS = (
    # too few
    ((), None), ((1,), None), ((0,), None), (("x",), None), ((None,), None), ((1001,), None), ((True,), None),
    # the last one
    ((1, 0), 1), ((0, 0), 1), ((1, 2, 0), 2), ((0, 0, 0), 2), ((-1, 1, 0, 0), 3), ((1, 2, 3, 4, 5, 0), 5),
    # beyond 1000
    ((-1001, 1), 0), ((1001, 1), 0), ((1, 1001), 1), ((1, -1001), 1), ((1, 1001, 1), 1), ((1, 2, 3, 4, 5, 1001), 5),
    ((10 ** 399, 1), 0), ((1, -(10 ** 399)), 1), ((1, 2000, 3000), 1), ((1, 1, 1, 1, 1001, 0), 4), ((1, 1001, 0), 1),
    # no integers
    ((True, 1), 0), ((1, True), 1), ((False, 1), 0), ((1, False), 1), ((-2, False, 1), 1), (("1", 1), 0), ((1, "1"), 1),
    ((None, 1), 0), ((1, None), 1), (((1,), 1), 0), ((1, (1,)), 1), ((1, [1]), 1), (([], 1), 0), ((1, 2, "x", None), 2),
    ((1, 2, 3, 4, 5, b"1"), 5), ((1, {}, 0), 1), (("x", 0), 0), ((object(), True), 0), ((1, "x", 1001, 0), 1),
    # too many
    ((1, 2, 3, 4, 5, 6, 7), 6), ((1, 2, 3, 4, 5, 6, 0), 6), ((1, 2, 3, 4, 5, 6, "x"), 6), ((1, 2, 3, 4, 5, 0, 7), 6),
    ((1, 2, 3, 4, 5, 6, 7, 8), 6), ((0,) * 7, 6), ((0,) * 50, 6), ((1, 2, 3, 4, 5, "x", 7), 5), ((1, 2, "x", 4, 5, 6, 7), 2),
    ((1, 2, 3, 4, 5, 1001, 7, 8), 5), ((1,) * 1000, 6), ((1, 2, 3, 4, 5, 6, 7, 0), 6),
    # no tuples
    ([-3, 2], None), ([], None), ("-3 2", None), ("", None), (None, None), (1, None), (True, None), ({1: 2}, None),
    ({-3, 2}, None), (range(2), None), (b"ab", None), (Shape("root 0 of -3 2"), None), (object(), None), (tuple, None),
)

# Fractions of another form, or below 0.
WRONG_FRACTIONS = (
    (-1, 1), (-1, 2), (-(10 ** 399), 1), (1, 0), (0, 0), (1, -1), (-1, -1), (0, -1), (0, 2), (2, 2), (2, 4), (6, 3),
    (10 ** 399, 10), (1,), (1, 1, 1), (1, 2, 3), (), (True, 1), (1, True), (False, 1), (0, True), (0, False), ("1", 1),
    (1, "1"), (None, 1), (1, None), ((1, 1), 1), (1, (1,)), ([1], 1), [1, 1], [0, 1], "1/1", "ab", 1, 0, None, True, {1: 1},
    {1, 2}, b"ab", range(1, 3), object(),
)


class Found(unittest.TestCase):
    def test_the_one_root_in_the_stretch_is_found(self):
        for equation, low, high, text in FOUND:
            with self.subTest(equation=equation, low=low, high=high):
                shape = Shape.of(equation, low, high)
                self.assertIs(type(shape), Shape)
                self.assertEqual(shape.text, text)
                self.assertEqual(shape, Shape(text))
                self.assertEqual(text, f"root {shape.rank} of {' '.join(str(term) for term in shape.equation)}")

    def test_arguments_are_taken_by_name(self):
        self.assertEqual(Shape.of(high=(4, 1), equation=(2, -4, 1), low=(3, 1)).text, "root 1 of 2 -4 1")
        self.assertEqual(Shape.of((2, -4, 1), high=(1, 1), low=(0, 1)).text, "root 0 of 2 -4 1")
        with self.assertRaises(InvalidFraction):
            Shape.of(high=(3, 1), equation=(2, -4, 1), low=(4, 1))

    def test_each_text_is_found_in_its_stretch(self):
        for text, low, high in STRETCHES:
            with self.subTest(text=text):
                equation = Shape(text).equation
                self.assertEqual(Shape.of(equation, low, high).text, text)
                turned = tuple(-term for term in equation)
                self.assertEqual(Shape.of(turned, low, high).text, text)

    def test_no_root_or_several(self):
        for equation, low, high in NOT_ONE:
            with self.subTest(equation=equation, low=low, high=high):
                with self.assertRaises(NoRoot):
                    Shape.of(equation, low, high)

    def test_least_equations_beyond_1000(self):
        for equation, low, high in BEYOND:
            with self.subTest(equation=equation, low=low, high=high):
                with self.assertRaises(TooMany) as caught:
                    Shape.of(equation, low, high)
                self.assertEqual(caught.exception.limit, 1000)

    def test_products_are_taken_apart(self):
        many = 0
        for some in product(PARTS, repeat=3):
            equation = times(times(some[0][0], some[1][0]), some[2][0])
            if len(equation) > 6 or max(abs(term) for term in equation) > 1000:
                continue
            for _, text, low, high in some:
                if text is not None:
                    self.assertEqual(Shape.of(equation, low, high).text, text, (equation, low, high))
                    many += 1
        self.assertGreater(many, 1000)


class Wrong(unittest.TestCase):
    def test_equations(self):
        for equation, index in WRONG_EQUATIONS:
            for low, high in (((1, 1), (2, 1)), ("x", None), ((2, 1), (1, 1))):
                with self.subTest(equation=repr(equation)[:60], low=low):
                    with self.assertRaises(InvalidEquation) as caught:
                        Shape.of(equation, low, high)
                    self.assertEqual(caught.exception.index, index)
                    self.assertIs(type(caught.exception.index), type(index))

    def test_equations_at_the_limits_are_right(self):
        for equation in (
            (-1000, 1000), (-1000, 1), (-1000, 999), (-1000, 0, 0, 0, 0, 1000), (-1000, 0, 0, 0, 1000), (-1000, -1000, 1000),
            (-1000, -1000, -1000, -1000, -1000, 1000), (1000, 1000, 1000, 1000, 1000, -1000),
        ):
            with self.subTest(equation=equation):
                self.assertLess(Shape.of(equation, (0, 1), (1001, 1)).rank, 2)

    def test_odd_equations(self):
        for value in ODD_VALUES:
            if not (isinstance(value, tuple) and len(value) > 1):
                with self.subTest(value=repr(value)[:40]):
                    with self.assertRaises(InvalidEquation) as caught:
                        Shape.of(equation=value, low=None, high=None)
                    self.assertIsNone(caught.exception.index)

    def test_lows(self):
        for low in WRONG_FRACTIONS:
            for high in ((2, 1), (0, 1), "x", None):
                with self.subTest(low=low, high=high):
                    self.assert_wrong_fraction(low, low, high)

    def test_highs(self):
        for high in WRONG_FRACTIONS:
            for low in ((0, 1), (1, 1)):
                with self.subTest(low=low, high=high):
                    self.assert_wrong_fraction(high, low, high)

    def test_odd_fractions(self):
        for value in ODD_VALUES:
            with self.subTest(value=repr(value)[:40]):
                self.assert_wrong_fraction(value, value, (2, 1))
                self.assert_wrong_fraction(value, (1, 1), value)

    def test_highs_below_the_low(self):
        for low, high in (
            ((2, 1), (1, 1)), ((1, 1), (0, 1)), ((3, 2), (4, 3)), ((1, 1), (999, 1000)), ((10 ** 399, 1), (10 ** 399 - 1, 1)),
            ((10 ** 399, 10 ** 399 - 1), (10 ** 399 + 1, 10 ** 399)), ((2, 3), (1, 2)), ((1, 10 ** 399), (0, 1)),
        ):
            with self.subTest(low=low, high=high):
                self.assert_wrong_fraction(high, low, high)

    def test_the_first_wrong_argument_counts(self):
        with self.assertRaises(InvalidFraction) as caught:
            Shape.of((1, 0, 1), (-1, 1), (-2, 1))
        self.assertEqual(caught.exception.given, (-1, 1))
        # Even without any root, or with a least equation beyond 1000, the arguments are judged first.
        with self.assertRaises(InvalidFraction):
            Shape.of((1, 0, 1), (1, 1), (0, 1))
        with self.assertRaises(InvalidFraction):
            Shape.of((-1, 1000, 1, -500, 1000, 500), (1, 1), (0, 1))

    def test_nothing_given_is_changed(self):
        inner = [-3, 2]
        with self.assertRaises(InvalidEquation):
            Shape.of(inner, (1, 1), (2, 1))
        with self.assertRaises(InvalidEquation):
            Shape.of((1, inner), (1, 1), (2, 1))
        with self.assertRaises(InvalidFraction):
            Shape.of((1, 1), inner, inner)
        self.assertEqual(inner, [-3, 2])

    def assert_wrong_fraction(self, wrong, low, high):
        with self.assertRaises(InvalidFraction) as caught:
            Shape.of((-1, 1), low, high)
        self.assertIs(caught.exception.given, wrong)


if __name__ == "__main__":
    unittest.main()

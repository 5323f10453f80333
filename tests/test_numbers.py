import unittest

from known import ODD_VALUES, is_written_once, narrowed, shapes, some_numbers, worth
from likepanes.errors import InvalidFraction, InvalidNumber, InvalidScale, NoQuotient, NotAShape
from likepanes.numbers import floor_of, number_of, opposite, product, quotient, root, sign, total
from likepanes.shapes import Shape

WIDE = Shape("root 1 of 2 -4 1")
TWO = Shape("root 0 of -3 2")
ROOT_TWO = Shape("root 1 of -2 0 1")
GOLDEN = Shape("root 1 of -1 -1 1")
STEEP = Shape("root 1 of -1 1000 3")
CUBE = Shape("root 0 of -2 0 0 1")
FIFTH = Shape("root 0 of -2 0 0 0 0 1")

SUMS = (
    (WIDE, (1, 0, 1), (2, -7, 0), (2, -7, 2)),
    (WIDE, (2, 1, 1), (2, 1, 1), (1, 1, 1)),
    (WIDE, (6, 1, 5), (10, 3, -7), (15, 7, 2)),
    (WIDE, (3, 1, 1), (3, -1, -1), (1, 0, 0)),
    (WIDE, (3, 1, 1), (5, 1, 1), (15, 8, 8)),
    (TWO, (2, 1), (3, 1), (6, 5)),
    (TWO, (2, 1), (2, 1), (1, 1)),
    (TWO, (2, 1), (2, -1), (1, 0)),
    (CUBE, (4, 1, 2, 3), (4, 3, 2, 1), (1, 1, 1, 1)),
    (FIFTH, (1, 0, 0, 0, 0, 1), (1, 1, 0, 0, 0, 0), (1, 1, 0, 0, 0, 1)),
    (FIFTH, (7, 1, 2, 3, 4, 5), (7, 6, 5, 4, 3, 2), (1, 1, 1, 1, 1, 1)),
)

PRODUCTS = (
    (WIDE, (1, 0, 1), (1, 0, 1), (1, -2, 4)),
    (ROOT_TWO, (1, 0, 1), (1, 0, 1), (1, 2, 0)),
    (ROOT_TWO, (1, 1, 1), (1, -1, 1), (1, 1, 0)),
    (ROOT_TWO, (2, 0, 1), (1, 0, 1), (1, 1, 0)),
    (ROOT_TWO, (2, 0, 1), (1, 2, 0), (1, 0, 1)),
    (GOLDEN, (1, 0, 1), (1, 0, 1), (1, 1, 1)),
    (STEEP, (1, 0, 1), (1, 0, 1), (3, 1, -1000)),
    (TWO, (2, 3), (3, 2), (1, 1)),
    (TWO, (2, 3), (2, 3), (4, 9)),
    (TWO, (1, 0), (2, 3), (1, 0)),
    (CUBE, (1, 0, 0, 1), (1, 0, 1, 0), (1, 2, 0, 0)),
    (CUBE, (1, 0, 0, 1), (1, 0, 0, 1), (1, 0, 2, 0)),
    (CUBE, (2, 0, 0, 1), (1, 0, 0, 1), (1, 0, 1, 0)),
    (FIFTH, (1, 0, 0, 0, 0, 1), (1, 0, 1, 0, 0, 0), (1, 2, 0, 0, 0, 0)),
    (FIFTH, (1, 0, 0, 0, 0, 1), (1, 0, 0, 0, 0, 1), (1, 0, 0, 0, 2, 0)),
)

QUOTIENTS = (
    (WIDE, (1, 1, 0), (1, 0, 1), (2, 4, -1)),
    (ROOT_TWO, (1, 1, 0), (1, 0, 1), (2, 0, 1)),
    (ROOT_TWO, (1, 1, 0), (1, 1, 1), (1, -1, 1)),
    (ROOT_TWO, (1, 1, 0), (1, 1, -1), (1, -1, -1)),
    (ROOT_TWO, (1, 1, 0), (1, -1, 0), (1, -1, 0)),
    (ROOT_TWO, (1, 1, 0), (1, 0, -1), (2, 0, -1)),
    (ROOT_TWO, (1, 0, 0), (1, 0, -1), (1, 0, 0)),
    (GOLDEN, (1, 1, 0), (1, 0, 1), (1, -1, 1)),
    (STEEP, (1, 1, 0), (1, 0, 1), (1, 1000, 3)),
    (TWO, (1, 1), (2, 3), (3, 2)),
    (TWO, (5, 4), (5, -4), (1, -1)),
    (TWO, (1, 0), (5, -4), (1, 0)),
    (CUBE, (1, 1, 0, 0), (1, 0, 1, 0), (2, 0, 0, 1)),
    (CUBE, (1, 1, 0, 0), (1, -1, 1, 0), (1, 1, 1, 1)),
    (FIFTH, (1, 1, 0, 0, 0, 0), (1, 0, 1, 0, 0, 0), (2, 0, 0, 0, 0, 1)),
    (FIFTH, (1, 1, 0, 0, 0, 0), (1, -1, 1, 0, 0, 0), (1, 1, 1, 1, 1, 1)),
)

# No numbers of a shape of degree 2.
WRONG_NUMBERS = (
    # a common divisor
    (2, 0, 0), (2, 2, 2), (2, 4, 6), (3, 0, 3), (10 ** 399, 10 ** 398, 0), (2, -2, 4), (5, 0, 0),
    # a bottom of 0 or below
    (0, 1, 0), (0, 0, 1), (0, 0, 0), (-1, 1, 0), (-1, 0, 0), (-2, 1, 1), (-(10 ** 399), 1, 1),
    # too few, too many
    (), (1,), (1, 0), (1, 1), (1, 0, 0, 0), (1, 1, 1, 1), (1, 0, 1, 0), (1, 0, 0, 0, 0, 0), (1,) * 50,
    # True, False and other kinds
    (True, 0, 0), (True, 1, 0), (1, True, 0), (1, 0, True), (1, False, 1), (1, 0, False), (False, 1, 0), (1, None, 0),
    (1, "1", 0), ("1", 1, 0), (None, 1, 0), (1, (1,), 0), ((1,), 0, 0), (1, [1], 0), (1, 0, b"1"), (1, 0, {}), (1, 0, ()),
    [1, 0, 0], [1, 1, 0], "100", "1 0 0", b"abc", {1: 0}, {1, 2, 3}, range(1, 4), 1, 0, True, None, object(),
)

WRONG_FRACTIONS = (
    (1, 0), (0, 0), (1, -1), (0, -1), (-1, -1), (0, 2), (2, 2), (-2, 4), (6, 3), (10 ** 399, 10), (), (1,), (1, 1, 1),
    (True, 1), (1, True), (False, 1), (0, True), ("1", 1), (1, "1"), (None, 1), (1, None), ((1, 1), 1), (1, (1,)), ([1], 1),
    [1, 1], [0, 1], "1/1", "ab", 1, 0, None, True, {1: 1}, {1, 2}, b"ab", range(1, 3), (1, 0, 0),
)

WRONG_SCALES = (
    0, -1, -10, 10 ** 40 + 1, 10 ** 41, 10 ** 399, -(10 ** 40), True, False, None, "1", "", b"1", (1,), (1, 1), [1], {}, (),
    object(), int, 10 ** 40 * 2,
)

ONE_NUMBER = (sign, opposite)
TWO_NUMBERS = (total, product, quotient)


class Numbers(unittest.TestCase):
    def test_fractions_as_numbers(self):
        for fraction in ((0, 1), (1, 1), (-7, 2), (3, 2), (-1, 1), (10 ** 399, 3), (-1, 10 ** 399), (1, 10 ** 40)):
            for shape, _, _ in shapes():
                with self.subTest(fraction=fraction, text=shape.text):
                    wanted = (fraction[1], fraction[0]) + (0,) * (shape.degree - 1)
                    self.assertEqual(number_of(shape, fraction), wanted)
                    self.assertEqual(number_of(fraction=fraction, shape=shape), wanted)
                    self.assertTrue(is_written_once(shape, number_of(shape, fraction)))

    def test_the_shape_as_a_number(self):
        for shape, low, high in shapes():
            with self.subTest(text=shape.text):
                if shape.degree == 1:
                    self.assertEqual(root(shape), (shape.equation[1], -shape.equation[0]))
                else:
                    self.assertEqual(root(shape), (1, 0, 1) + (0,) * (shape.degree - 2))
                self.assertEqual(root(shape=shape), root(shape))
                self.assertTrue(is_written_once(shape, root(shape)))

    def test_the_equation_holds_for_the_shape(self):
        for shape, _, _ in shapes():
            with self.subTest(text=shape.text):
                value = number_of(shape, (0, 1))
                for term in shape.equation[::-1]:
                    value = total(shape, product(shape, value, root(shape)), number_of(shape, (term, 1)))
                self.assertEqual(value, number_of(shape, (0, 1)))

    def test_known_sums(self):
        for shape, first, second, wanted in SUMS:
            self.check(total, shape, first, second, wanted)
            self.check(total, shape, second, first, wanted)

    def test_known_products(self):
        for shape, first, second, wanted in PRODUCTS:
            self.check(product, shape, first, second, wanted)
            self.check(product, shape, second, first, wanted)

    def test_known_quotients(self):
        for shape, first, second, wanted in QUOTIENTS:
            self.check(quotient, shape, first, second, wanted)

    def check(self, function, shape, first, second, wanted):
        with self.subTest(function=function.__name__, text=shape.text, first=first, second=second):
            self.assertEqual(function(shape, first, second), wanted)
            self.assertEqual(function(second=second, first=first, shape=shape), wanted)

    def test_opposites(self):
        for shape in (WIDE, ROOT_TWO):
            for number, wanted in (
                ((1, 0, 0), (1, 0, 0)), ((1, 1, 0), (1, -1, 0)), ((3, -1, 2), (3, 1, -2)), ((2, 0, -1), (2, 0, 1)),
            ):
                self.assertEqual(opposite(shape, number), wanted)
                self.assertEqual(opposite(number=number, shape=shape), wanted)
        self.assertEqual(opposite(TWO, (2, 3)), (2, -3))
        self.assertEqual(opposite(FIFTH, (2, 1, -1, 0, 3, -4)), (2, -1, 1, 0, -3, 4))

    def test_all_results_are_written_in_the_one_way(self):
        for shape, _, _ in shapes():
            numbers = some_numbers(shape, 6, 2, 1) + some_numbers(shape, 6, 40, 2)
            for first in numbers:
                self.assertTrue(is_written_once(shape, opposite(shape, first)))
                for second in numbers:
                    results = [total(shape, first, second), product(shape, first, second)]
                    if any(second[1:]):
                        results.append(quotient(shape, first, second))
                    for result in results:
                        self.assertTrue(is_written_once(shape, result), (shape.text, first, second, result))

    def test_results_lie_where_they_must(self):
        for shape, low, high in shapes():
            places = narrowed(shape, low, high, 1200)
            numbers = some_numbers(shape, 7, 3, 3) + some_numbers(shape, 7, 40, 4)
            for first in numbers:
                for second in numbers:
                    one, other = worth(first, places), worth(second, places)
                    self.assert_meets(shape, total(shape, first, second), places, (one[0] + other[0], one[1] + other[1]))
                    corners = [left * right for left in one for right in other]
                    self.assert_meets(shape, product(shape, first, second), places, (min(corners), max(corners)))
                    if any(second[1:]):
                        corners = [left / right for left in one for right in other]
                        self.assert_meets(shape, quotient(shape, first, second), places, (min(corners), max(corners)))

    def assert_meets(self, shape, result, places, wanted):
        low, high = worth(result, places)
        self.assertLessEqual(low, wanted[1], (shape.text, result))
        self.assertLessEqual(wanted[0], high, (shape.text, result))
        self.assertLess((high - low) + (wanted[1] - wanted[0]), abs(wanted[0]) / 10 ** 20 + (low == high))

    def test_rules_of_reckoning(self):
        for shape, _, _ in shapes():
            nought, unit = number_of(shape, (0, 1)), number_of(shape, (1, 1))
            for digits in (1, 40, 400):
                numbers = some_numbers(shape, 5, digits, digits)
                for first, second, third in zip(numbers, numbers[1:], numbers[2:]):
                    with self.subTest(text=shape.text, first=first, second=second, third=third):
                        both = product(shape, first, second)
                        self.assertEqual(both, product(shape, second, first))
                        self.assertEqual(quotient(shape, both, second), first)
                        self.assertEqual(product(shape, quotient(shape, first, second), second), first)
                        self.assertEqual(quotient(shape, third, third), unit)
                        self.assertEqual(total(shape, first, opposite(shape, first)), nought)
                        self.assertEqual(product(shape, first, nought), nought)
                        self.assertEqual(total(shape, first, nought), first)
                        self.assertEqual(product(shape, third, total(shape, first, second)),
                                         total(shape, product(shape, third, first), product(shape, third, second)))
                        self.assertEqual(product(shape, third, both),
                                         product(shape, product(shape, third, first), second))
                        self.assertEqual(product(shape, opposite(shape, first), second), opposite(shape, both))

    def test_what_was_told_is_taken_however_great(self):
        for shape, low, high in shapes():
            number, second = some_numbers(shape, 4, 400, 9)[2:]
            start = number
            for _ in range(4):
                number = product(shape, number, number)
            with self.subTest(text=shape.text):
                self.assertGreater(number[0] * max(map(abs, number[1:])), 10 ** 9000)
                for _ in range(15):
                    number = quotient(shape, number, start)
                self.assertEqual(number, start)
                great = product(shape, *[product(shape, second, second)] * 2)
                great = product(shape, great, product(shape, great, great))
                self.assertEqual(sign(shape, great), 1)
                self.assertEqual(sign(shape, opposite(shape, great)), -1)
                self.assertEqual(floor_of(shape, opposite(shape, great), 7), -floor_of(shape, great, 7) - 1)
                again = number_of(shape, (floor_of(shape, great, 1), 1))
                self.assertEqual(sign(shape, total(shape, great, opposite(shape, again))), 1)

    def test_equal_arguments_tell_equal_things_with_others_between(self):
        calls = []
        for shape, _, _ in shapes():
            numbers = some_numbers(shape, 5, 2, 7)
            for first in numbers:
                calls.append((sign, shape.text, (first,)))
                calls.append((floor_of, shape.text, (first, 1000)))
                for second in numbers[1:]:
                    calls.extend((function, shape.text, (first, second)) for function in TWO_NUMBERS)
            calls.append((root, shape.text, ()))
        kept = {shape.text: shape for shape, _, _ in shapes()}
        told = [function(kept[text], *rest) for function, text, rest in calls]
        again = [function(Shape(text), *rest) for function, text, rest in calls[::-1]][::-1]
        self.assertEqual(told, again)
        self.assertEqual(told, [function(kept[text], *rest) for function, text, rest in calls])

    def test_one_tuple_is_a_number_of_several_shapes(self):
        for _ in range(2):
            for text, wanted in (
                ("root 1 of -2 0 1", (1, 2, 0)), ("root 1 of -3 0 1", (1, 3, 0)), ("root 1 of -1 -1 1", (1, 1, 1)),
                ("root 0 of 2 -4 1", (1, -2, 4)), ("root 1 of 2 -4 1", (1, -2, 4)), ("root 1 of -1 1000 3", (3, 1, -1000)),
            ):
                self.assertEqual(product(Shape(text), (1, 0, 1), (1, 0, 1)), wanted)
        for _ in range(2):
            self.assertEqual(sign(Shape("root 0 of 2 -4 1"), (1, -1, 1)), -1)
            self.assertEqual(sign(Shape("root 1 of 2 -4 1"), (1, -1, 1)), 1)


class Errors(unittest.TestCase):
    def test_what_is_no_shape(self):
        for value in (*ODD_VALUES, "root 1 of 2 -4 1", (2, -4, 1), Shape):
            with self.subTest(value=repr(value)[:40]):
                self.assert_raised(NotAShape, value, root, value)
                for wrong in ((1, 0), (1, 0, 0), None, "x", []):
                    self.assert_raised(NotAShape, value, number_of, value, wrong)
                    self.assert_raised(NotAShape, value, floor_of, value, wrong, wrong)
                    for function in ONE_NUMBER:
                        self.assert_raised(NotAShape, value, function, value, wrong)
                    for function in TWO_NUMBERS:
                        self.assert_raised(NotAShape, value, function, value, wrong, wrong)

    def test_arguments_by_name_are_checked_in_the_order_of_the_signature(self):
        with self.assertRaises(NotAShape):
            total(second=None, first=None, shape=None)
        with self.assertRaises(InvalidNumber) as caught:
            product(second=[2], first=[1], shape=WIDE)
        self.assertEqual(caught.exception.given, [1])
        with self.assertRaises(InvalidNumber):
            floor_of(scale=0, number=(2, 0, 0), shape=WIDE)
        with self.assertRaises(InvalidNumber):
            quotient(second=(1, 0, 0), first=(1, 0), shape=WIDE)

    def test_what_is_no_number(self):
        for value in (*WRONG_NUMBERS, *ODD_VALUES):
            for shape in (WIDE, ROOT_TWO):
                with self.subTest(value=repr(value)[:40]):
                    for function in ONE_NUMBER:
                        self.assert_raised(InvalidNumber, value, function, shape, value)
                    for function in TWO_NUMBERS:
                        self.assert_raised(InvalidNumber, value, function, shape, value, (1, 1, 0))
                        self.assert_raised(InvalidNumber, value, function, shape, value, (1, 0, 0))
                        self.assert_raised(InvalidNumber, value, function, shape, value, [1])
                        self.assert_raised(InvalidNumber, value, function, shape, (1, 1, 0), value)
                        self.assert_raised(InvalidNumber, value, function, shape, (1, 0, 0), value)
                    for scale in (1, 0, None):
                        self.assert_raised(InvalidNumber, value, floor_of, shape, value, scale)

    def test_numbers_have_one_integer_more_than_the_degree(self):
        for shape, _, _ in shapes():
            for length in range(9):
                number = (1,) * length
                if length != shape.degree + 1:
                    self.assert_raised(InvalidNumber, number, sign, shape, number)
                    self.assert_raised(InvalidNumber, number, total, shape, number_of(shape, (1, 1)), number)
                else:
                    self.assertEqual(sign(shape, number), 1)

    def test_what_is_no_fraction(self):
        for value in (*WRONG_FRACTIONS, *ODD_VALUES):
            for shape in (TWO, WIDE, CUBE):
                with self.subTest(value=repr(value)[:40]):
                    self.assert_raised(InvalidFraction, value, number_of, shape, value)

    def test_what_is_no_scale(self):
        for value in (*WRONG_SCALES, *(value for value in ODD_VALUES if value != 0)):
            for shape, number in ((TWO, (2, 3)), (WIDE, (1, 0, 1)), (WIDE, (1, 0, 0)), (CUBE, (1, 0, 0, 1))):
                with self.subTest(value=repr(value)[:40]):
                    self.assert_raised(InvalidScale, value, floor_of, shape, number, value)

    def test_nothing_is_divided_by_nought(self):
        for shape, _, _ in shapes():
            for first in some_numbers(shape, 4, 3, 5):
                with self.assertRaises(NoQuotient):
                    quotient(shape, first, number_of(shape, (0, 1)))
                with self.assertRaises(NoQuotient):
                    quotient(second=(1,) + (0,) * shape.degree, first=first, shape=shape)

    def test_nothing_given_is_changed(self):
        inner = [1, 0, 0]
        for value in (inner, (1, inner, 0)):
            self.assert_raised(InvalidNumber, value, sign, WIDE, value)
            self.assert_raised(InvalidFraction, value, number_of, WIDE, value)
            self.assert_raised(InvalidScale, value, floor_of, WIDE, (1, 0, 1), value)
        self.assertEqual(inner, [1, 0, 0])

    def assert_raised(self, error, given, function, *arguments):
        with self.assertRaises(error) as caught:
            function(*arguments)
        self.assertIs(type(caught.exception), error)
        self.assertIs(caught.exception.given, given)


if __name__ == "__main__":
    unittest.main()

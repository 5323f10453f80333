import unittest
from fractions import Fraction
from math import isqrt

from known import narrowed, shapes, some_numbers, worth
from likepanes.numbers import floor_of, number_of, opposite, product, quotient, root, sign, total
from likepanes.shapes import Shape

SCALES = (1, 2, 7, 10, 10 ** 6, 10 ** 39 + 3, 10 ** 40 - 1, 10 ** 40)
TWO = Shape("root 0 of -3 2")
ROOT_TWO = Shape("root 1 of -2 0 1")


def convergents(digits):
    """Pairs (p, q) with p p - 2 q q = -1 and 1 in turn, up to so many digits."""
    found, pair = [], (1, 1)
    while pair[0] < 10 ** digits:
        found.append(pair)
        pair = (pair[0] + 2 * pair[1], pair[0] + pair[1])
    return found


class Signs(unittest.TestCase):
    def test_known_signs(self):
        wide = Shape("root 1 of 2 -4 1")
        for shape, number, wanted in (
            (wide, (2, -7, 2), -1), (wide, (1, 0, 0), 0), (wide, (1, 1, 0), 1), (wide, (1, -1, 0), -1),
            (wide, (1, 0, 1), 1), (wide, (1, 0, -1), -1), (wide, (1, -3, 1), 1), (wide, (1, -4, 1), -1),
            (wide, (500, -1707, 500), 1), (wide, (200, -683, 200), -1), (wide, (10 ** 399, 1, 0), 1),
            (TWO, (1, 0), 0), (TWO, (2, 3), 1), (TWO, (2, -3), -1), (TWO, (10 ** 399, -1), -1),
        ):
            with self.subTest(text=shape.text, number=number):
                self.assertIs(type(sign(shape, number)), int)
                self.assertEqual(sign(shape, number), wanted)
                self.assertEqual(sign(number=number, shape=shape), wanted)

    def test_nought_has_no_sign_in_any_shape(self):
        for shape, _, _ in shapes():
            self.assertEqual(sign(shape, number_of(shape, (0, 1))), 0)
            self.assertEqual(sign(shape, root(shape)), 1)
            self.assertEqual(sign(shape, opposite(shape, root(shape))), -1)

    def test_signs_are_those_of_the_places(self):
        for shape, low, high in shapes():
            places = narrowed(shape, low, high, 2000)
            for digits in (1, 3, 40, 400):
                for number in some_numbers(shape, 12, digits, 11)[1:]:
                    least, most = worth(number, places)
                    with self.subTest(text=shape.text, number=number):
                        self.assertTrue(least > 0 or most < 0 or not any(number[1:]))
                        self.assertEqual(sign(shape, number), (least > 0) - (most < 0))
                        self.assertEqual(sign(shape, opposite(shape, number)), (most < 0) - (least > 0))

    def test_convergents_of_the_square_root_of_2(self):
        for at, (top, bottom) in enumerate(convergents(399)):
            self.assertEqual(sign(ROOT_TWO, (1, top, -bottom)), -1 if at & 1 == 0 else 1)
            self.assertEqual(sign(ROOT_TWO, (1, -top, bottom)), 1 if at & 1 == 0 else -1)

    def test_numbers_that_are_nearly_nought(self):
        for shape, low, high in shapes():
            least, _ = narrowed(shape, low, high, 1300)
            for digits in (20, 40, 200, 390):
                near = least.numerator * 10 ** digits // least.denominator
                rest = (0,) * (shape.degree - 2)
                if shape.degree > 1:
                    self.assertEqual(sign(shape, (1, -near, 10 ** digits) + rest), 1)
                    self.assertEqual(sign(shape, (1, -near - 1, 10 ** digits) + rest), -1)
                    self.assertEqual(floor_of(shape, (1, -near, 10 ** digits) + rest, 1), 0)
                    self.assertEqual(floor_of(shape, (1, -near - 1, 10 ** digits) + rest, 1), -1)

    def test_small_powers_are_nearly_nought(self):
        # (root of 2 less 1) to a power, with a sign, and 10 to the power of 100 and more times it.
        small = (1, -1, 1)
        for _ in range(8):
            small = product(ROOT_TWO, small, small)
            self.assertEqual(sign(ROOT_TWO, small), 1)
            self.assertEqual(sign(ROOT_TWO, opposite(ROOT_TWO, small)), -1)
            self.assertEqual(floor_of(ROOT_TWO, small, 1), 0)
            self.assertEqual(floor_of(ROOT_TWO, opposite(ROOT_TWO, small), 1), -1)
            self.assertEqual(floor_of(ROOT_TWO, total(ROOT_TWO, small, (1, 1, 0)), 1), 1)
            self.assertEqual(floor_of(ROOT_TWO, total(ROOT_TWO, opposite(ROOT_TWO, small), (1, 1, 0)), 1), 0)

    def test_nearly_nought_in_higher_degrees(self):
        for text, unit in (
            ("root 0 of -2 0 0 1", (1, -1, 1, 0)), ("root 2 of 1 -5 0 0 0 1", (1, -3, 2, 0, 0, 0)),
            ("root 0 of -2 0 0 0 0 1", (1, -1, 1, 0, 0, 0)), ("root 3 of 1 0 -10 0 1", (1, -3, 1, 0, 0)),
        ):
            shape = Shape(text)
            for _ in range(7):
                unit = product(shape, unit, unit)
                other = quotient(shape, number_of(shape, (1, 1)), unit)
                self.assertEqual((sign(shape, unit), sign(shape, other)), (1, 1))
                self.assertEqual(sign(shape, opposite(shape, unit)), -1)
                self.assertEqual(sign(shape, opposite(shape, other)), -1)


class Floors(unittest.TestCase):
    def test_known_floors(self):
        wide = Shape("root 1 of 2 -4 1")
        for shape, number, scale, wanted in (
            (wide, (1, 0, 1), 10 ** 6, 3414213), (wide, (1, 0, -1), 10, -35), (wide, (1, 0, 1), 1, 3), (wide, (1, 0, -1), 1, -4),
            (wide, (1, 0, 0), 1, 0), (wide, (1, 0, 0), 10 ** 40, 0), (wide, (1, 1, 0), 10 ** 40, 10 ** 40),
            (wide, (3, 1, 0), 10, 3), (wide, (3, -1, 0), 10, -4), (wide, (3, -1, 0), 3, -1), (wide, (3, 1, 0), 3, 1),
            (wide, (2, 1, 0), 1, 0), (wide, (2, -1, 0), 1, -1), (wide, (10 ** 399, 1, 0), 1, 0), (wide, (10 ** 399, -1, 0), 1, -1),
            (wide, (1, 10 ** 399, 0), 10 ** 40, 10 ** 439), (wide, (1, -2, 1), 10 ** 40, isqrt(2 * 10 ** 80)),
            (TWO, (2, 3), 1, 1), (TWO, (2, 3), 2, 3), (TWO, (2, -3), 1, -2), (TWO, (2, -3), 2, -3), (TWO, (1, 5), 7, 35),
            (TWO, (7, 22), 10 ** 40, 22 * 10 ** 40 // 7), (TWO, (1, 0), 5, 0),
        ):
            with self.subTest(text=shape.text, number=number, scale=scale):
                self.assertIs(type(floor_of(shape, number, scale)), int)
                self.assertEqual(floor_of(shape, number, scale), wanted)
                self.assertEqual(floor_of(scale=scale, number=number, shape=shape), wanted)

    def test_square_roots(self):
        for square in (2, 3, 5, 7, 10, 998, 999):
            shape = Shape(f"root 1 of -{square} 0 1")
            for scale in SCALES:
                for factor in (1, 12345678901234567890123456789012345678901, 10 ** 399):
                    wanted = isqrt(square * (factor * scale) ** 2)
                    self.assertEqual(floor_of(shape, (1, 0, factor), scale), wanted)
                    self.assertEqual(floor_of(shape, (1, 0, -factor), scale), -wanted - 1)
                    self.assertEqual(floor_of(shape, (1, 10 ** 50, factor), scale), wanted + 10 ** 50 * scale)

    def test_floors_are_those_of_the_places(self):
        for shape, low, high in shapes():
            places = narrowed(shape, low, high, 2000)
            for digits in (1, 3, 40, 400):
                for number in some_numbers(shape, 9, digits, 13):
                    least, most = worth(number, places)
                    for scale in SCALES:
                        with self.subTest(text=shape.text, number=number, scale=scale):
                            told = floor_of(shape, number, scale)
                            self.assertLessEqual(told, least * scale)
                            self.assertLess(most * scale, told + 1)

    def test_the_shape_itself(self):
        for shape, low, high in shapes():
            least, most = narrowed(shape, low, high, 300)
            for scale in SCALES:
                told = floor_of(shape, root(shape), scale)
                self.assertLessEqual(told, least * scale)
                self.assertLess(most * scale, told + 1)

    def test_integers_and_fractions(self):
        for shape, _, _ in shapes():
            for top, bottom in ((0, 1), (1, 1), (-1, 1), (7, 1), (1, 3), (-1, 3), (22, 7), (-22, 7), (10 ** 399, 7), (-1, 10 ** 399)):
                for scale in SCALES:
                    wanted = Fraction(top * scale, bottom).__floor__()
                    self.assertEqual(floor_of(shape, number_of(shape, (top, bottom)), scale), wanted)

    def test_numbers_that_are_nearly_integers(self):
        for top, bottom in convergents(390)[::20]:
            # top - bottom times the root of 2 is nearly 0, so these are nearly 5 and nearly -5.
            above = sign(ROOT_TWO, (1, top, -bottom)) == 1
            self.assertEqual(floor_of(ROOT_TWO, (1, top + 5, -bottom), 1), 5 if above else 4)
            self.assertEqual(floor_of(ROOT_TWO, (1, top - 5, -bottom), 1), -5 if above else -6)
            self.assertEqual(floor_of(ROOT_TWO, (1, -top + 5, bottom), 1), 4 if above else 5)
            self.assertEqual(floor_of(ROOT_TWO, (1, top * 10 ** 5 + 7, -bottom * 10 ** 5), 1) - 7 < 0, not above)


if __name__ == "__main__":
    unittest.main()

import unittest
from fractions import Fraction
from random import Random

from known import ODD_VALUES, STRETCHES, Raises, Ruler, equation_of, is_written_once, told_shapes
from likepanes.errors import InvalidFraction, InvalidText, NotAShape
from likepanes.numbers import floor_of
from likepanes.shapes import Shape
from likepanes.writing import fills, steps, worth, written

WIDE = Shape("root 1 of 2 -4 1")
TWO = Shape("root 0 of -3 2")
ROOT_TWO = Shape("root 1 of -2 0 1")

# Shapes that are written out by all their steps.
WHOLE = (
    ("root 0 of -1 1", ((1, 1),)),
    ("root 0 of -3 2", ((2, 3),)),
    ("root 0 of -2 3", ((3, 2),)),
    ("root 0 of -1000 999", ((999, 1000),)),
    ("root 0 of -1 1000", ((1000, 1),)),
    ("root 0 of -1000 1", ((1, 1000),)),
    ("root 1 of 2 -4 1", ((1, 4), (2, 1))),
    ("root 0 of 2 -4 1", ((1, 4), (2, 1))),
    ("root 0 of 3 -6 2", ((1, 3), (2, 1))),
    ("root 1 of 1 -1000 1", ((1, 1000), (1000, 1))),
    ("root 0 of -1 1 -2 1", ((1, 2), (4, 1), (1, 2))),
    ("root 0 of -1 2 -1 1", ((1, 1), (1, 1), (1, 1))),
    # 2 x^4 + 6 x^2 + 3, 6 x^3 + 9 x, 3 x^2 + 3, 3 x, 3
    ("root 0 of 3 -9 6 -6 2", ((1, 3), (2, 1), (1, 1), (1, 1))),
    ("root 0 of -2 8 -4 10 -1 2", ((2, 1), (1, 2), (1, 1), (1, 1), (1, 1))),
)

# Shapes of which a step cannot be gone, with those ahead of it.
BROKEN = (
    # v is 0 at once
    ("root 1 of -2 0 1", ()),
    ("root 3 of 1 0 -10 0 1", ()),
    ("root 2 of 1 0 -10 0 1", ()),
    ("root 1 of -7 0 0 0 3", ()),
    # the degree of v is too small, though the quotient is above 0
    ("root 0 of -2 0 0 1", ()),
    ("root 0 of -2 0 0 0 0 1", ()),
    ("root 0 of -3 -2 0 0 0 1", ()),
    ("root 0 of -3 -2 0 1", ()),
    ("root 1 of -1 -1 0 0 1", ()),
    # it is too small, and the quotient is below 0
    ("root 1 of 1 -3 0 1", ()),
    ("root 2 of 1 -5 0 0 0 1", ()),
    # the quotient is below 0, at once
    ("root 1 of -1 1 1", ()),
    ("root 1 of -1 1000 3", ()),
    ("root 0 of -1 1 1 1", ()),
    # .. after one step
    ("root 1 of -1 -1 1", ((1, 1),)),
    ("root 1 of -1 -2 1", ((1, 2),)),
    ("root 0 of -2 1 -1 1", ((1, 1),)),
    # .. after two
    ("root 0 of 2 -6 3 -2 1", ((1, 2),)),
    ("root 0 of 1 -4 1 -1 1", ((1, 1),)),
    ("root 1 of 1 1 -4 1", ((1, 4), (16, 5))),
    # .. after three
    ("root 1 of -1 -1 3 -1 1", ((1, 1), (1, 2), (4, 3))),
    # v falls by two degrees after one step
    ("root 0 of 1 -2 1 -2 1", ((1, 2),)),
)

WRONG_FRACTIONS = (
    (), ((1, 1),) * 13, ((1, 1),) * 50, ((0, 1),), ((-1, 1),), ((1, 1), (0, 1)), ((-1, 2), (1, 1)), ((1, 1), (1, -1)),
    ((2, 2),), ((1, 0),), ((4, 2), (1, 1)), ((1, 1), (6, 3)), ((1, 1), 1), ((1, 1), None), ((1, 1), (1,)), ((1, 1, 1),),
    ((True, 1),), ((1, True),), ((1, 1), ("1", 1)), ([1, 1],), ((1, 1), [1, 1]), [(1, 1)], [(1, 1), (2, 1)], (1, 1),
    (1,),
    ("11",), "11", "1/1", {(1, 1): 1}, {(1, 1)}, ((1, 1),) * 11 + ((0, 1), (1, 1)), (((1, 1), (1, 1)),), (None,), ((),),
    ((1, 1),) * 12 + (None,),
)


class Steps(unittest.TestCase):
    def test_shapes_that_are_written_out(self):
        for text, fractions in WHOLE:
            with self.subTest(text=text):
                shape = Shape(text)
                self.assert_same(steps(shape), fractions)
                self.assert_same(written(shape), fractions)
                self.assert_same(steps(shape=shape), fractions)
                self.assert_same(written(shape=shape), fractions)
                self.assertIs(fills(shape), True)
                self.assertIs(fills(shape=shape), True)

    def test_shapes_that_are_not(self):
        for text, fractions in BROKEN:
            with self.subTest(text=text):
                shape = Shape(text)
                self.assert_same(steps(shape), fractions)
                self.assertIsNone(written(shape))
                self.assertIsNone(written(shape=shape))
                self.assertIs(fills(shape), False)
                self.assertIs(fills(shape=shape), False)

    def assert_same(self, found, wanted):
        self.assertEqual(found, wanted)
        self.assertEqual([type(part) for part in (found, *found)], [tuple] * (1 + len(found)))
        self.assertEqual({type(number) for pair in found for number in pair} - {int}, set())

    def test_shapes_found_backwards_from_fractions(self):
        for degree in range(1, 6):
            for text, fractions in told_shapes(degree, 12, degree):
                with self.subTest(text=text):
                    self.assertEqual(written(Shape(text)), fractions)

    def test_steps_are_those_of_the_definition(self):
        for text in some_texts():
            with self.subTest(text=text):
                self.assertEqual(steps(Shape(text)), own_steps(text))

    def test_a_shape_fills_just_if_all_roots_lie_right(self):
        seen = {True: 0, False: 0}
        for text in some_texts():
            with self.subTest(text=text):
                right = all_lie_right([int(word) for word in text.split(" ")[3:]])
                seen[right] += 1
                shape = Shape(text)
                self.assertIs(fills(shape), right)
                self.assertEqual(written(shape), steps(shape) if right else None)
                self.assertEqual(len(steps(shape)) == shape.degree, right)
        self.assertGreater(min(seen.values()), 60)

    def test_the_roots_of_one_equation_are_alike_in_this(self):
        for text in some_texts():
            words = text.split(" ")
            for rank in range(6):
                try:
                    other = Shape(" ".join(["root", str(rank), *words[2:]]))
                except InvalidText:
                    continue
                self.assertEqual(written(other), written(Shape(text)))
                self.assertEqual(steps(other), steps(Shape(text)))


class Worth(unittest.TestCase):
    def test_known_values(self):
        for shape, fractions, wanted in (
            (WIDE, ((1, 4), (2, 1)), (1, 1, 0)), (WIDE, ((1, 1),), (1, 0, 1)), (WIDE, ((7, 2),), (2, 0, 7)),
            (TWO, ((2, 3),), (1, 1)), (TWO, ((1, 1),), (2, 3)), (TWO, ((1, 1), (1, 1)), (6, 13)),
            (TWO, ((2, 1), (1, 3)), (1, 5)),
            (ROOT_TWO, ((1, 1),), (1, 0, 1)), (ROOT_TWO, ((1, 1), (1, 1)), (2, 0, 3)),
            (ROOT_TWO, ((3, 1), (1, 2)), (1, 0, 4)),
            (ROOT_TWO, ((1, 1), (1, 1), (1, 1)), (3, 0, 4)), (ROOT_TWO, ((10 ** 399, 7),), (7, 0, 10 ** 399)),
        ):
            with self.subTest(text=shape.text, fractions=fractions):
                self.assertEqual(worth(shape, fractions), wanted)
                self.assertEqual(worth(fractions=fractions, shape=shape), wanted)

    def test_what_a_shape_is_written_out_by_is_worth_1(self):
        for degree in range(1, 6):
            for text, fractions in told_shapes(degree, 6, 10 + degree):
                self.assertEqual(worth(Shape(text), fractions), (1, 1) + (0,) * (degree - 1))

    def test_own_reckoning(self):
        pick = Random(5)
        for text, _, _ in STRETCHES:
            ruler = Ruler(text)
            for many, most in ((1, 9), (2, 1000), (3, 9), (5, 4), (12, 3), (12, 10 ** 20)):
                row = [Fraction(pick.randint(1, most), pick.randint(1, most)) for _ in range(many)]
                value = None
                for part in row[::-1]:
                    first = ruler.scaled(part, ruler.r)
                    value = first if value is None else ruler.add(first, ruler.inverse(value))
                told = worth(ruler.shape, tuple((part.numerator, part.denominator) for part in row))
                self.assertEqual(told, ruler.number(value))

    def test_twelve_fractions_of_400_digits_are_taken(self):
        fractions = tuple((10 ** 399 + at + 1, 10 ** 399 + at) for at in range(12))
        value = worth(WIDE, fractions)
        self.assertTrue(is_written_once(WIDE, value))
        # Nearly r + 1 / (r + ..) with twelve times r, 3.41..: 3.685..
        self.assertEqual(floor_of(WIDE, value, 10 ** 6), floor_of(WIDE, worth(WIDE, ((1, 1),) * 12), 10 ** 6))
        self.assertEqual(floor_of(WIDE, value, 100), 368)


class Errors(unittest.TestCase, Raises):
    def test_what_is_no_shape(self):
        for value in (*ODD_VALUES, "root 0 of -1 1", (2, -4, 1), Shape):
            with self.subTest(value=repr(value)[:40]):
                for function in (written, fills, steps):
                    self.assert_raised(NotAShape, {"given": value}, function, value)
                for fractions in (((1, 1),), (), None, [1]):
                    self.assert_raised(NotAShape, {"given": value}, worth, value, fractions)

    def test_what_are_no_fractions(self):
        for value in (*WRONG_FRACTIONS, *ODD_VALUES):
            for shape in (TWO, WIDE):
                with self.subTest(value=repr(value)[:40]):
                    self.assert_raised(InvalidFraction, {"given": value}, worth, shape, value)

    def test_nothing_given_is_changed(self):
        inner = [(1, 1)]
        self.assert_raised(InvalidFraction, {"given": inner}, worth, WIDE, inner)
        self.assertEqual(inner, [(1, 1)])


def some_texts():
    """Texts of shapes of all degrees, about as many of those that fill squares as of others."""
    pick = Random(3)
    found = [text for text, _, _ in STRETCHES] + [text for text, _ in WHOLE + BROKEN]
    for degree in range(1, 6):
        found.extend(text for text, _ in told_shapes(degree, 10, 20 + degree))
        for turn in range(40):
            terms = [pick.randint(-6, 6) for _ in range(degree)] + [pick.randint(1, 3)]
            if turn & 1 == 1:
                terms = [abs(term) * (-1) ** (degree - at) for at, term in enumerate(terms)]
            for rank in range(degree):
                text = f"root {rank} of {' '.join(map(str, terms))}"
                try:
                    found.append(Shape(text).text)
                except InvalidText:
                    continue
    return found


def own_steps(text):
    """The quotients of the definition, with Fractions in dicts from powers."""
    terms = {at: Fraction(int(word)) for at, word in enumerate(text.split(" ")[3:]) if word != "0"}
    degree, found = max(terms), []
    u = {at: term for at, term in terms.items() if (degree - at) % 2 == 0}
    v = {at: -term for at, term in terms.items() if (degree - at) % 2 == 1}
    while v:
        c = u[max(u)] / v[max(v)]
        if c <= 0 or max(v) != max(u) - 1:
            break
        found.append((c.numerator, c.denominator))
        left = {at: u.get(at, 0) - c * v.get(at - 1, 0) for at in range(max(u) + 1)}
        u, v = v, {at: term for at, term in left.items() if term != 0}
    return tuple(found)


def all_lie_right(terms):
    """Whether all roots have a real part above 0, by the determinants of Hurwitz for the mirrored roots."""
    degree = len(terms) - 1
    mirrored = [term * (-1) ** at for at, term in enumerate(terms)][::-1]
    if mirrored[0] < 0:
        mirrored = [-term for term in mirrored]
    rows = [
        [mirrored[2 * column - row + 1] if 0 <= 2 * column - row + 1 <= degree else 0 for column in range(degree)]
        for row in range(degree)
    ]
    return all(determinant([row[:many] for row in rows[:many]]) > 0 for many in range(1, degree + 1))


def determinant(rows):
    if not rows:
        return 1
    return sum(
        (-1) ** at * rows[0][at] * determinant([row[:at] + row[at + 1:] for row in rows[1:]])
        for at in range(len(rows)) if rows[0][at] != 0
    )


class Own(unittest.TestCase):
    def test_the_own_ways_are_right(self):
        self.assertEqual(equation_of((Fraction(2, 3),)), (-3, 2))
        self.assertEqual(equation_of((Fraction(1, 4), Fraction(2))), (2, -4, 1))
        self.assertTrue(all_lie_right([2, -4, 1]))
        self.assertFalse(all_lie_right([-2, 0, 1]))
        self.assertFalse(all_lie_right([-1, 2, 1]))
        self.assertTrue(all_lie_right([-6, 11, -6, 1]))
        self.assertFalse(all_lie_right([-6, 7, 0, -1]))
        self.assertEqual(determinant([[1, 2, 3], [4, 5, 6], [7, 8, 10]]), -3)


if __name__ == "__main__":
    unittest.main()

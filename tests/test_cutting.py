import unittest
from fractions import Fraction
from itertools import combinations
from random import Random

from known import (
    ODD_VALUES, STRETCHES, WHEEL, WRONG_NUMBERS, Raises, Ruler, meet, panes, some_numbers, told_shapes,
)
from likepanes.cutting import clash, cut_square, is_cutting, panes_in
from likepanes.errors import InvalidCutting, InvalidNumber, NotAShape, NotPositive, TooMany
from likepanes.numbers import number_of, opposite, product, quotient, root, total
from likepanes.shapes import Shape
from likepanes.writing import fills, written

WIDE = Shape("root 1 of 2 -4 1")
TWO = Shape("root 0 of -3 2")
DOUBLE = Shape("root 0 of -2 1")
ROOT_TWO = Shape("root 1 of -2 0 1")
CUBE = Shape("root 0 of -2 0 0 1")


# A shape, panes, a width and a height that are filled.
FILLED = (
    (TWO, panes((0, 0, 1, "lying")), (2, 3), (1, 1)),
    (TWO, panes((0, 0, 1, "standing")), (1, 1), (2, 3)),
    (TWO, panes((0, 0, 2, "lying")), (1, 3), (1, 2)),
    (TWO, panes((0, 0, 2, "lying"), (0, 2, 2, "lying")), (1, 3), (1, 4)),
    (TWO, panes((0, 2, 2, "lying"), (0, 0, 2, "lying")), (1, 3), (1, 4)),
    (TWO, panes((0, 0, 2, "standing"), (2, 0, 2, "standing"), (0, 3, Fraction(8, 3), "lying")), (1, 4), (3, 17)),
    (TWO, panes(*[(3 * at, 2 * up, 2, "lying") for at in range(2) for up in range(3)]), (1, 6), (1, 6)),
    (TWO, panes(*[(2 * at, 3 * up, 2, "standing") for at in range(3) for up in range(2)]), (1, 6), (1, 6)),
    (DOUBLE, WHEEL, (1, 3), (1, 3)),
    (DOUBLE, WHEEL[::-1], (1, 3), (1, 3)),
    (DOUBLE, panes((0, 0, 1, "lying"), (0, 1, 1, "lying")), (1, 2), (1, 2)),
    (DOUBLE, panes((1, 0, 1, "standing"), (0, 0, 1, "standing")), (1, 2), (1, 2)),
    (WIDE, (((1, 0, 0), (1, 0, 0), (1, 1, 0), "lying"),), (1, 0, 1), (1, 1, 0)),
    (WIDE, (((1, 0, 0), (1, 0, 0), (1, 1, 0), "standing"),), (1, 1, 0), (1, 0, 1)),
    (WIDE, (((1, 0, 0), (1, 0, 0), (1, 0, 1), "lying"),), (1, -2, 4), (1, 0, 1)),
    (ROOT_TWO, (((1, 0, 0), (1, 0, 0), (1, 1, 0), "lying"), ((1, 0, 1), (1, 0, 0), (1, 1, 0), "lying")),
     (1, 0, 2), (1, 1, 0)),
    # half a sheet is like the sheet
    (ROOT_TWO, (((1, 0, 0), (1, 0, 0), (1, 1, 0), "standing"), ((1, 1, 0), (1, 0, 0), (1, 1, 0), "standing")),
     (1, 2, 0), (1, 0, 1)),
)

# The same with panes that do not fill.
UNFILLED = (
    # too small, too great, turned
    (TWO, panes((0, 0, 1, "lying")), (1, 1), (1, 1)),
    (TWO, panes((0, 0, 1, "lying")), (1, 1), (2, 3)),
    (TWO, panes((0, 0, 1, "lying")), (2, 3), (1, 2)),
    (TWO, panes((0, 0, 1, "lying")), (1, 2), (1, 1)),
    (TWO, panes((0, 0, 1, "standing")), (2, 3), (1, 1)),
    (TWO, panes((0, 0, 2, "lying")), (2, 3), (1, 1)),
    (TWO, panes((0, 0, 1, "lying")), (1, 3), (1, 2)),
    # the right area at another place, or in another form
    (TWO, panes((1, 0, 1, "lying")), (2, 3), (1, 1)),
    (TWO, panes((0, -1, 1, "lying")), (2, 3), (1, 1)),
    (TWO, panes((0, 0, 2, "lying")), (1, 2), (1, 3)),
    (TWO, panes((0, 0, 2, "lying")), (1, 6), (1, 1)),
    (TWO, panes((Fraction(1, 1000), 0, 1, "lying")), (2, 3), (1, 1)),
    # a gap, something outside, one upon another with the right area
    (DOUBLE, panes((0, 0, 1, "lying"), (0, 2, 1, "lying")), (1, 2), (1, 2)),
    (DOUBLE, panes((0, 0, 1, "lying"), (1, 1, 1, "lying")), (1, 2), (1, 2)),
    (DOUBLE, panes((0, 0, 1, "lying"), (0, 0, 1, "lying")), (1, 2), (1, 2)),
    (DOUBLE, panes((0, 0, 1, "lying"), (0, 0, 1, "standing")), (1, 2), (1, 2)),
    (DOUBLE, panes((0, 0, 1, "lying"), (0, Fraction(1, 2), 1, "lying")), (1, 2), (1, 2)),
    (DOUBLE, panes((1, 0, 1, "lying"), (1, 1, 1, "lying")), (1, 2), (1, 2)),
    (DOUBLE, panes((-1, 0, 1, "lying"), (-1, 1, 1, "lying")), (1, 2), (1, 2)),
    (DOUBLE, panes((0, 0, 1, "standing"), (0, 0, 1, "standing")), (1, 2), (1, 2)),
    # all filled, and more of it, in a way that all corners meet evenly
    (DOUBLE, panes((0, 0, 1, "lying"), (0, 1, 1, "lying"), (0, 0, 1, "lying"), (0, 0, 1, "lying")), (1, 2), (1, 2)),
    (DOUBLE, panes((0, 0, 1, "lying"), (0, 1, 1, "lying"), (5, 5, 1, "lying"), (5, 5, 1, "lying")), (1, 2), (1, 2)),
    (DOUBLE, panes(*[(0, at // 3, 1, "lying") for at in range(6)]), (1, 2), (1, 2)),
    (DOUBLE, panes((0, 0, 1, "lying"), (0, 1, 1, "lying"), (0, 0, 1, "standing"), (1, 0, 1, "standing")),
     (1, 2), (1, 2)),
    (DOUBLE, panes(*[(0, at % 2, 1, "lying") for at in range(4)], (0, 0, 1, "standing"), (1, 0, 1, "standing")),
     (1, 2), (1, 2)),
    # one of the wheel is gone, smaller, turned, there twice, somewhere else
    (DOUBLE, WHEEL[1:], (1, 3), (1, 3)),
    (DOUBLE, WHEEL[:-1], (1, 3), (1, 3)),
    (DOUBLE, WHEEL + WHEEL[:1], (1, 3), (1, 3)),
    (DOUBLE, WHEEL + WHEEL, (1, 3), (1, 3)),
    (DOUBLE, WHEEL[:4] + WHEEL[4:5] * 2, (1, 3), (1, 3)),
    (DOUBLE, WHEEL[:5] + panes((1, Fraction(3, 2), Fraction(1, 2), "standing")), (1, 3), (1, 3)),
    (DOUBLE, WHEEL[:5] + panes((1, Fraction(3, 2), Fraction(1, 3), "lying")), (1, 3), (1, 3)),
    (DOUBLE, WHEEL, (1, 3), (1, 4)),
    (DOUBLE, WHEEL, (2, 9), (1, 2)),
    # not quite the right place
    (ROOT_TWO, (((1, 0, 0), (1, 0, 0), (1, 1, 0), "lying"), ((408, 577, 0), (1, 0, 0), (1, 1, 0), "lying")),
     (1, 0, 2), (1, 1, 0)),
    (ROOT_TWO, (((1, 0, 0), (1, 0, 0), (1, 1, 0), "lying"), ((408, 577, 0), (1, 0, 0), (1, 1, 0), "lying")),
     (408, 577, 408), (1, 1, 0)),
    (ROOT_TWO, (((1, 0, 0), (1, 0, 0), (1, 1, 0), "lying"),), (408, 577, 0), (1, 1, 0)),
    (WIDE, (((1, 0, 0), (1, 0, 0), (1, 1, 0), "lying"),), (1, 1, 0), (1, 0, 1)),
)

NOUGHT, UNIT = (1, 0, 0), (1, 1, 0)

# No quadruples of a shape of degree 2.
WRONG_PANES = (
    (NOUGHT, NOUGHT, NOUGHT, "lying"), (NOUGHT, NOUGHT, (1, -1, 0), "lying"), (NOUGHT, NOUGHT, (1, 3, -1), "standing"),
    (NOUGHT, NOUGHT, UNIT, "Lying"), (NOUGHT, NOUGHT, UNIT, "lie"), (NOUGHT, NOUGHT, UNIT, ""),
    (NOUGHT, NOUGHT, UNIT, "l"),
    (NOUGHT, NOUGHT, UNIT, "lying "), (NOUGHT, NOUGHT, UNIT, "lyingstanding"), (NOUGHT, NOUGHT, UNIT, None),
    (NOUGHT, NOUGHT, UNIT, b"lying"), (NOUGHT, NOUGHT, UNIT, ("lying",)), (NOUGHT, NOUGHT, UNIT, ["lying"]),
    (NOUGHT, NOUGHT, UNIT, 0), (NOUGHT, NOUGHT, UNIT, True), (NOUGHT, NOUGHT, UNIT),
    (NOUGHT, NOUGHT, UNIT, "lying", "lying"),
    (NOUGHT, NOUGHT, "lying", UNIT), (), (NOUGHT,), [NOUGHT, NOUGHT, UNIT, "lying"], "lying", None, 0, True, UNIT,
    (NOUGHT, NOUGHT, (1, 1), "lying"), ((1, 0), NOUGHT, UNIT, "lying"), (NOUGHT, (1, 0, 0, 0), UNIT, "lying"),
    ((2, 0, 0), NOUGHT, UNIT, "lying"), (NOUGHT, (0, 0, 0), UNIT, "lying"), (NOUGHT, NOUGHT, (2, 2, 2), "lying"),
    (NOUGHT, NOUGHT, (-1, 1, 0), "lying"), ((True, 0, 0), NOUGHT, UNIT, "lying"),
    (NOUGHT, (1, False, 0), UNIT, "lying"),
    (NOUGHT, NOUGHT, (1, True, 0), "lying"), ([1, 0, 0], NOUGHT, UNIT, "lying"), (0, 0, 1, "lying"),
    (None, NOUGHT, UNIT, "lying"),
    (NOUGHT, None, UNIT, "lying"), (NOUGHT, NOUGHT, None, "lying"), {NOUGHT: UNIT}, (NOUGHT, NOUGHT, "1", "standing"),
    ((NOUGHT, NOUGHT, UNIT, "lying"),), object(), (NOUGHT, NOUGHT, [1, 1, 0], "lying"),
    ((1, 0, "0"), NOUGHT, UNIT, "lying"),
)

RIGHT_PANE = (NOUGHT, NOUGHT, UNIT, "lying")


class Told(unittest.TestCase, Raises):
    def test_told_cuttings_fill_the_square(self):
        texts = [text for text, _, _ in STRETCHES]
        for degree in range(1, 6):
            texts.extend(text for text, _ in told_shapes(degree, 8, 40 + degree))
        many = 0
        for text in texts:
            shape = Shape(text)
            if not fills(shape):
                self.assertIsNone(cut_square(shape))
                self.assertIsNone(cut_square(shape=shape))
                self.assertIsNone(panes_in(shape))
            elif panes_in(shape) <= 120:
                with self.subTest(text=text):
                    self.check_fills(shape)
                    many += 1
        self.assertGreater(many, 30)

    def check_fills(self, shape):
        ruler, told = Ruler(shape.text), cut_square(shape)
        self.assertIs(type(told), tuple)
        self.assertTrue(ruler.fills(told, ruler.unit, ruler.unit))
        self.assertEqual(cut_square(shape=shape), told)
        unit = number_of(shape, (1, 1))
        self.assertIs(is_cutting(shape, told, unit, unit), True)
        self.assertIsNone(clash(shape, told))

    def test_how_many_panes(self):
        for text, wanted in (
            ("root 0 of -1 1", 1), ("root 0 of -3 2", 6), ("root 0 of -2 3", 6), ("root 0 of -2 1", 2),
            ("root 1 of 2 -4 1", 6),
            ("root 0 of 2 -4 1", 6), ("root 0 of -1 1 -2 1", 8), ("root 0 of 3 -9 6 -6 2", 7),
            ("root 0 of -2 8 -4 10 -1 2", 7),
            ("root 0 of -1000 999", 999000), ("root 0 of -1 500", 500), ("root 0 of -1 501", 501),
            ("root 1 of -2 0 1", None),
            ("root 1 of -1 -1 1", None), ("root 0 of 1 -500 500", 501), ("root 0 of 1 -499 499", 500),
        ):
            with self.subTest(text=text):
                self.assertEqual(panes_in(Shape(text)), wanted)
                self.assertEqual(panes_in(shape=Shape(text)), wanted)
        for degree in range(1, 6):
            for text, fractions in told_shapes(degree, 9, 60 + degree):
                self.assertEqual(panes_in(Shape(text)), sum(top * bottom for top, bottom in fractions))

    def test_up_to_500_panes(self):
        for text in (
            "root 0 of -1 500", "root 0 of -500 1", "root 0 of -25 18", "root 0 of 1 -499 499", "root 1 of 1 -490 49",
        ):
            shape = Shape(text)
            with self.subTest(text=text):
                self.assertLessEqual(panes_in(shape), 500)
                self.check_fills(shape)

    def test_more_than_500_panes(self):
        for text in (
            "root 0 of -1 501", "root 0 of -501 1", "root 0 of 1 -500 500", "root 1 of 1 -500 500",
            "root 0 of -1000 999",
            "root 0 of -23 22", "root 1 of 1 -1000 1",
        ):
            with self.subTest(text=text):
                self.assertGreater(panes_in(Shape(text)), 500)
                self.assert_raised(TooMany, {"limit": 500}, cut_square, Shape(text))

    def test_equal_arguments_tell_equal_things(self):
        for text in ("root 1 of 2 -4 1", "root 0 of -1 1 -2 1"):
            self.assertEqual(cut_square(Shape(text)), cut_square(Shape(text)))


class Judged(unittest.TestCase):
    def test_what_fills(self):
        for shape, some, width, height in FILLED:
            with self.subTest(text=shape.text, some=some):
                self.assertIs(is_cutting(shape, some, width, height), True)
                self.assertIs(is_cutting(height=height, width=width, panes=some, shape=shape), True)
                self.assertIs(self.own(shape, some, width, height), True)
                self.assertIsNone(clash(shape, some))

    def test_what_does_not_fill(self):
        for shape, some, width, height in UNFILLED:
            with self.subTest(text=shape.text, some=some):
                self.assertIs(is_cutting(shape, some, width, height), False)
                self.assertIs(is_cutting(height=height, width=width, panes=some, shape=shape), False)
                self.assertIs(self.own(shape, some, width, height), False)

    def own(self, shape, some, width, height):
        ruler = Ruler(shape.text)
        return ruler.fills(some, ruler.parts(width), ruler.parts(height))

    def test_places_that_are_not_quite_right(self):
        # From the left to the root of 2, where the second one begins, nothing else will do.
        near, far = (1, 1), (3, 2)
        for _ in range(300):
            near, far = far, (far[0] + 2 * far[1], far[0] + far[1])
        first, width = (NOUGHT, NOUGHT, UNIT, "lying"), (1, 0, 2)
        for top, bottom in (near, far):
            second = ((bottom, top, 0), NOUGHT, UNIT, "lying")
            self.assertIs(is_cutting(ROOT_TWO, (first, second), width, UNIT), False)
            # top by bottom is above the root of 2 just if top top is above 2 bottom bottom.
            wanted = None if top * top > 2 * bottom * bottom else (0, 1)
            self.assertEqual(clash(ROOT_TWO, (first, second)), wanted)
            self.assertEqual(clash(ROOT_TWO, (second, first)), wanted)
        self.assertIs(is_cutting(ROOT_TWO, (first, ((1, 0, 1), NOUGHT, UNIT, "lying")), width, UNIT), True)

    def test_places_that_differ_by_very_little(self):
        for shape in (TWO, WIDE, CUBE, Shape("root 2 of 1 -5 0 0 0 1")):
            nought, unit = number_of(shape, (0, 1)), number_of(shape, (1, 1))
            for digits in (10, 25, 100, 390):
                for top, wanted in ((1, None), (-1, (0, 1))):
                    beside = total(shape, root(shape), number_of(shape, (top, 10 ** digits)))
                    row = ((nought, nought, unit, "lying"), (beside, nought, unit, "lying"))
                    self.assertEqual(clash(shape, row), wanted)
                    self.assertEqual(clash(shape, row[::-1]), wanted)
                    turned = tuple((pane[1], pane[0], pane[2], "standing") for pane in row)
                    self.assertEqual(clash(shape, turned), wanted)
                    self.assertIs(is_cutting(shape, row, total(shape, root(shape), root(shape)), unit), False)

    def test_one_change_to_a_cutting(self):
        pick = Random(9)
        for text in ("root 0 of -3 2", "root 1 of 2 -4 1", "root 0 of -1 1 -2 1", "root 0 of -2 8 -4 10 -1 2"):
            shape, ruler = Shape(text), Ruler(text)
            told, unit = cut_square(shape), number_of(shape, (1, 1))
            numbers = some_numbers(shape, 5, 1, 3) + [root(shape), *(number for pane in told for number in pane[:3])]
            for _ in range(60):
                at, part = pick.randrange(len(told)), pick.randrange(4)
                pane = list(told[at])
                if part == 3:
                    pane[3] = "standing" if pane[3] == "lying" else "lying"
                else:
                    pane[part] = pick.choice(numbers)
                if ruler.sign(ruler.parts(pane[2])) <= 0:
                    continue
                changed = told[:at] + (tuple(pane),) + told[at + 1:]
                wanted = ruler.fills(changed, ruler.unit, ruler.unit)
                self.assertIs(is_cutting(shape, changed, unit, unit), wanted)
                self.assertEqual(wanted, changed == told)

    def test_cuttings_stretched_and_mirrored(self):
        for text in ("root 0 of -3 2", "root 0 of 2 -4 1", "root 0 of -1 1 -2 1"):
            shape = Shape(text)
            unit = number_of(shape, (1, 1))
            for number in (root(shape), number_of(shape, (5, 7)), quotient(shape, unit, root(shape))):
                stretched = tuple(
                    (*[product(shape, number, part) for part in pane[:3]], pane[3]) for pane in cut_square(shape))
                self.assertIs(is_cutting(shape, stretched, number, number), True)
                self.assertIs(is_cutting(shape, stretched, unit, unit), number == unit)
            other = {"lying": "standing", "standing": "lying"}
            mirrored = tuple((y, x, side, other[way]) for x, y, side, way in cut_square(shape))
            self.assertIs(is_cutting(shape, mirrored, unit, unit), True)
            moved = tuple((total(shape, unit, pane[0]), *pane[1:]) for pane in cut_square(shape))
            self.assertIs(is_cutting(shape, moved, unit, unit), False)

    def test_more_than_500_panes_are_judged(self):
        lefts = [product(WIDE, (1, at, 0), root(WIDE)) for at in range(20)]
        grid = tuple((left, (1, up, 0), UNIT, "lying") for left in lefts for up in range(30))
        width = product(WIDE, (1, 20, 0), root(WIDE))
        self.assertIs(is_cutting(WIDE, grid, width, (1, 30, 0)), True)
        self.assertIs(is_cutting(WIDE, grid[:-1], width, (1, 30, 0)), False)
        self.assertIs(is_cutting(WIDE, grid + grid[:1], width, (1, 30, 0)), False)
        self.assertIs(is_cutting(WIDE, grid[1:] + grid[1:2], width, (1, 30, 0)), False)

    def test_other_values_are_no_cuttings(self):
        for value in (*ODD_VALUES, RIGHT_PANE, [RIGHT_PANE], {RIGHT_PANE: 1}, "lying", (RIGHT_PANE, None), UNIT, WIDE):
            with self.subTest(value=repr(value)[:40]):
                self.assertIs(is_cutting(WIDE, value, root(WIDE), UNIT), False)
        self.assertIs(is_cutting(WIDE, (RIGHT_PANE,), root(WIDE), UNIT), True)
        for pane in WRONG_PANES:
            with self.subTest(pane=repr(pane)[:60]):
                self.assertIs(is_cutting(WIDE, (pane,), root(WIDE), UNIT), False)
                self.assertIs(is_cutting(WIDE, (RIGHT_PANE, pane), root(WIDE), UNIT), False)
                self.assertIs(is_cutting(WIDE, (pane, RIGHT_PANE), root(WIDE), UNIT), False)

    def test_nothing_given_is_changed(self):
        value = [[1, 0, 0], RIGHT_PANE]
        self.assertIs(is_cutting(WIDE, value, UNIT, UNIT), False)
        self.assertIs(is_cutting(WIDE, (value,), UNIT, UNIT), False)
        self.assertEqual(value, [[1, 0, 0], RIGHT_PANE])


class Clashes(unittest.TestCase):
    def test_known_clashes(self):
        for some, wanted in (
            (panes((0, 0, 1, "lying")), None),
            (panes((0, 0, 1, "lying"), (0, 0, 1, "lying")), (0, 1)),
            (panes((0, 0, 1, "lying"), (0, 0, 1, "standing")), (0, 1)),
            (panes((0, 0, 1, "lying"), (0, 1, 1, "lying")), None),
            (panes((0, 0, 1, "lying"), (2, 0, 1, "lying")), None),
            (panes((0, 0, 1, "lying"), (2, 1, 1, "lying")), None),
            (panes((2, 0, 1, "lying"), (0, 0, 1, "lying")), None),
            (panes((0, 1, 1, "lying"), (0, 0, 1, "lying")), None),
            (panes((0, 0, 1, "lying"), (1, 0, 1, "lying")), (0, 1)),
            (panes((0, 0, 1, "lying"), (0, Fraction(1, 2), 1, "lying")), (0, 1)),
            (panes((0, 0, 1, "lying"), (-1, -1, 5, "lying")), (0, 1)),
            (panes((-1, -1, 5, "lying"), (0, 0, 1, "lying")), (0, 1)),
            (panes((0, 0, 3, "standing"), (-1, 1, 3, "lying")), (0, 1)),
            (panes((-1, 1, 3, "lying"), (0, 0, 3, "standing")), (0, 1)),
            (panes((Fraction(1999, 1000), 0, 1, "lying"), (0, 0, 1, "lying")), (0, 1)),
            (panes((0, 0, 1, "lying"), (5, 0, 1, "lying"), (5, 0, 1, "lying")), (1, 2)),
            (panes((0, 0, 1, "lying"), (5, 0, 1, "lying"), (0, 0, 1, "lying"), (5, 0, 1, "lying")), (0, 2)),
            (panes(*[(x, 0, 1, "lying") for x in (9, 5, 0, 0, 5)]), (1, 4)),
            (panes(*[(x, 0, 1, "lying") for x in (0, 9, 9, 0, 0)]), (0, 3)),
            (WHEEL, None), (WHEEL + WHEEL[3:4], (3, 6)), (WHEEL + WHEEL, (0, 6)), (WHEEL[5:] + WHEEL, (0, 6)),
        ):
            with self.subTest(some=some):
                self.assertEqual(clash(DOUBLE, some), wanted)
                self.assertEqual(clash(panes=some, shape=DOUBLE), wanted)
                self.assertIs(type(clash(DOUBLE, some)), type(wanted))

    def test_the_least_pair_in_the_own_way(self):
        pick = Random(17)
        for text, _, _ in STRETCHES:
            ruler, shape = Ruler(text), Shape(text)
            numbers = some_numbers(shape, 5, 1, 3)
            numbers += [root(shape), number_of(shape, (2, 1)), opposite(shape, root(shape))]
            sides = [number for number in numbers if ruler.sign(ruler.parts(number)) > 0]
            for many in (2, 2, 2, 2, 3, 4, 8, 30):
                some = tuple(
                    (pick.choice(numbers), pick.choice(numbers), pick.choice(sides), pick.choice(("lying", "standing")))
                    for _ in range(many))
                boxes = ruler.boxes([ruler.edges(pane) for pane in some])
                pairs = [pair for pair in combinations(range(many), 2) if meet(*[boxes[at] for at in pair])]
                with self.subTest(text=text, some=some):
                    self.assertEqual(clash(shape, some), min(pairs) if pairs else None)

    def test_500_panes(self):
        row = tuple(((1, at, 0), NOUGHT, UNIT, "standing") for at in range(500))
        self.assertIsNone(clash(WIDE, row))
        self.assertEqual(clash(WIDE, row[:499] + row[498:499]), (498, 499))
        self.assertEqual(clash(WIDE, row[:499] + row[:1]), (0, 499))


class Errors(unittest.TestCase, Raises):
    def test_what_is_no_shape(self):
        for value in (*ODD_VALUES, "root 1 of 2 -4 1", (2, -4, 1), Shape):
            with self.subTest(value=repr(value)[:40]):
                self.assert_raised(NotAShape, {"given": value}, cut_square, value)
                self.assert_raised(NotAShape, {"given": value}, panes_in, value)
                for other in (None, (), (1, 0), [1]):
                    self.assert_raised(NotAShape, {"given": value}, clash, value, other)
                    self.assert_raised(NotAShape, {"given": value}, is_cutting, value, other, other, other)

    def test_what_is_no_width_or_height(self):
        for value in (*WRONG_NUMBERS, *ODD_VALUES):
            for some in ((RIGHT_PANE,), None, [1], ()):
                with self.subTest(value=repr(value)[:40]):
                    for other in (UNIT, NOUGHT, None, [1]):
                        self.assert_raised(InvalidNumber, {"given": value}, is_cutting, WIDE, some, value, other)
                    for other in (UNIT, NOUGHT, (1, -1, 0)):
                        self.assert_raised(InvalidNumber, {"given": value}, is_cutting, WIDE, some, other, value)

    def test_numbers_of_another_degree(self):
        for shape, unit in ((WIDE, (1, 1)), (WIDE, (1, 1, 0, 0)), (TWO, UNIT), (CUBE, UNIT)):
            self.assert_raised(InvalidNumber, {"given": unit}, is_cutting, shape, (), unit, unit)

    def test_a_width_or_a_height_that_is_not_above_nought(self):
        for low in (NOUGHT, (1, -1, 0), (1, 3, -1), (1, 0, -1), (10 ** 399, -1, 0)):
            for some in ((RIGHT_PANE,), None, [1], ()):
                for other in (UNIT, NOUGHT, (1, -1, 0), (1, -3, 1)):
                    self.assert_raised(NotPositive, {}, is_cutting, WIDE, some, low, other)
                    self.assert_raised(NotPositive, {}, is_cutting, WIDE, some, other, low)

    def test_what_is_no_row_of_panes(self):
        for value in (*ODD_VALUES, [RIGHT_PANE], {RIGHT_PANE: 1}, "lying", WIDE):
            if not isinstance(value, tuple) or value == ():
                with self.subTest(value=repr(value)[:40]):
                    self.assert_raised(InvalidCutting, {"index": None}, clash, WIDE, value)

    def test_the_first_wrong_pane_counts(self):
        for pane in WRONG_PANES:
            with self.subTest(pane=repr(pane)[:60]):
                for some, index in (
                    ((pane,), 0), ((RIGHT_PANE, pane), 1), ((pane, RIGHT_PANE), 0),
                    ((RIGHT_PANE, RIGHT_PANE, pane, pane), 2),
                    ((RIGHT_PANE,) * 499 + (pane,), 499), ((RIGHT_PANE,) * 499 + (pane, RIGHT_PANE), 499),
                    ((RIGHT_PANE,) * 500 + (pane,), 500),
                ):
                    self.assert_raised(InvalidCutting, {"index": index}, clash, WIDE, some)

    def test_too_many_panes(self):
        for some, index in (
            ((RIGHT_PANE,) * 501, 500), ((RIGHT_PANE,) * 700, 500), ((RIGHT_PANE,) * 550 + (None,), 500),
            ((RIGHT_PANE,) * 20 + (None,) + (RIGHT_PANE,) * 600, 20),
        ):
            self.assert_raised(InvalidCutting, {"index": index}, clash, WIDE, some)
        self.assertEqual(clash(WIDE, (RIGHT_PANE,) * 500), (0, 1))

    def test_too_many_panes_are_looked_for_last(self):
        self.assert_raised(NotAShape, {"given": None}, cut_square, None)
        # What does not fill has no cutting, however great its quotients are.
        self.assertIsNone(cut_square(Shape("root 1 of -1 -1000 1")))
        self.assertIsNone(cut_square(Shape("root 1 of -1 1000 1000")))


if __name__ == "__main__":
    unittest.main()

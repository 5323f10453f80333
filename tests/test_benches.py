import unittest
from fractions import Fraction
from itertools import product
from random import Random

from known import ODD_VALUES, STRETCHES, WHEEL, WRONG_NUMBERS, Anything, Raises, Ruler
from known import fraction, meet, panes, told_shapes
from likepanes.benches import Bench
from likepanes.cutting import cut_square, is_cutting
from likepanes.errors import InvalidIndex, InvalidNumber, InvalidWay, NotAShape, Outside, Overlaps
from likepanes.numbers import number_of
from likepanes.shapes import Shape

TWO = "root 0 of -2 1"
WIDE = "root 1 of 2 -4 1"
UNIT, NOUGHT = (1, 1), (1, 0)


def told(bench):
    return bench.panes, bench.left, bench.is_full, bench.changes, bench.shape.text


def filled(text, rows):
    bench = Bench(Shape(text))
    for row in rows:
        bench.put(*row)
    return bench


class Plain:
    """A bench of the tests: a list of panes for each change, and a way to reckon of their own."""

    def __init__(self, ruler):
        self.ruler, self.rows = ruler, [[]]
        self.square = (ruler.nought, ruler.nought, ruler.unit, ruler.unit)

    def outcome(self, pane):
        """None if a pane can be put, else `outside` or the index of the first pane that it meets."""
        rows = [self.square, self.ruler.edges(pane)] + [self.ruler.edges(other) for other in self.rows[-1]]
        square, box, *others = self.ruler.boxes(rows)
        if min(box[:2]) < square[0] or max(box[2:]) > square[2]:
            return "outside"
        return next((index for index, other in enumerate(others) if meet(box, other)), None)

    def left(self):
        area = self.ruler.unit
        for pane in self.rows[-1]:
            side = self.ruler.parts(pane[2])
            area = self.ruler.less(area, self.ruler.mul(self.ruler.r, self.ruler.mul(side, side)))
        return self.ruler.number(area)


class Benches(Raises, unittest.TestCase):
    def test_a_new_bench(self):
        for text, _, _ in STRETCHES:
            shape = Shape(text)
            for bench in (Bench(shape), Bench(shape=shape)):
                self.assertEqual(bench.shape, shape)
                self.assertEqual((bench.panes, bench.is_full, bench.changes), ((), False, 0))
                self.assertEqual(bench.left, (1, 1) + (0,) * (shape.degree - 1))

    def test_only_shapes_have_benches(self):
        for value in ODD_VALUES + (WIDE, Bench(Shape(WIDE)), Anything()):
            self.assert_raised(NotAShape, {"given": value}, Bench, value)

    def test_a_bench_is_true_and_equal_to_itself_alone(self):
        shape = Shape(WIDE)
        bench, other = Bench(shape), Bench(shape)
        self.assertTrue(bench)
        self.assertTrue(bench == bench)
        self.assertFalse(bench != bench)
        for value in (other, shape, *ODD_VALUES):
            self.assertFalse(bench == value)
            self.assertTrue(bench != value)
        bench.put((1, 0, 0), (1, 0, 0), (4, 1, 0), "lying")
        self.assertTrue(bench)
        self.assertTrue(filled("root 0 of -1 1", [(NOUGHT, NOUGHT, UNIT, "lying")]))

    def test_panes_stand_as_they_were_put(self):
        rows = [row for row in cut_square(Shape(WIDE))]
        for _ in range(5):
            Random(7).shuffle(rows)
            bench = filled(WIDE, rows)
            self.assertEqual(bench.panes, tuple(rows))
            self.assertIs(type(bench.panes), tuple)
            self.assertEqual((bench.left, bench.is_full, bench.changes), ((1, 0, 0), True, len(rows)))

    def test_by_name(self):
        bench = Bench(Shape(TWO))
        self.assertIsNone(bench.put(way="standing", side=(2, 1), y=NOUGHT, x=(2, 1)))
        self.assertEqual(bench.panes, (((2, 1), NOUGHT, (2, 1), "standing"),))
        self.assertIsNone(bench.take(index=0))
        self.assertEqual(bench.panes, ())

    def test_told_cuttings_fill_benches(self):
        told = [(text, None) for text in ("root 0 of -1 1", "root 0 of -3 2", WIDE, "root 0 of 2 -4 1")]
        for text, _ in told + told_shapes(2, 4, 3) + told_shapes(3, 4, 5) + told_shapes(4, 3, 7):
            shape = Shape(text)
            rows = cut_square(shape)
            if len(rows) > 120:
                continue
            bench, unit = Bench(shape), number_of(shape, UNIT)
            for many, row in enumerate(rows):
                self.assertFalse(bench.is_full)
                self.assertEqual(bench.changes, many)
                bench.put(*row)
            self.assertTrue(bench.is_full)
            self.assertEqual(bench.left, number_of(shape, (0, 1)))
            self.assertTrue(is_cutting(shape, bench.panes, unit, unit))
            for index, row in enumerate(rows):
                self.assert_raised(Overlaps, {"index": index}, bench.put, *row)
            self.assertEqual(bench.panes, rows)

    def test_panes_around_others(self):
        third = [tuple((*(fraction(Fraction(*part[::-1]) / 3) for part in row[:3]), row[3])) for row in WHEEL]
        bench = filled(TWO, third)
        self.assertTrue(bench.is_full)
        bench.take(4)
        self.assertEqual((bench.left, bench.is_full), ((18, 1), False))
        self.assertEqual(bench.panes, tuple(third[:4] + third[5:]))


class Errors(Raises, unittest.TestCase):
    def setUp(self):
        self.bench = Bench(Shape(WIDE))
        self.rows = cut_square(Shape(WIDE))
        for row in self.rows[:2]:
            self.bench.put(*row)
        self.before = told(self.bench)
        self.right = self.rows[2]

    def tearDown(self):
        self.assertEqual(told(self.bench), self.before)

    def test_each_number(self):
        odd = [*ODD_VALUES, *WRONG_NUMBERS, Anything(), (1, 1, Anything())]
        for at in range(3):
            for value in odd:
                given = [*self.right[:at], value, *self.right[at + 1:]]
                self.assert_raised(InvalidNumber, {"given": value}, self.bench.put, *given)

    def test_sides_that_are_not_above_nought(self):
        for side in ((1, 0, 0), (1, -1, 0), (4, -1, 0), (1, 3, -1), (10 ** 300, -1, 0)):
            given = (*self.right[:2], side, self.right[3])
            self.assert_raised(InvalidNumber, {"given": side}, self.bench.put, *given)
            given = (*self.right[:2], side, "askew")
            self.assert_raised(InvalidNumber, {"given": side}, self.bench.put, *given)

    def test_ways(self):
        for way in ODD_VALUES + ("Lying", "lying ", "standin", "l", "s", ("lying",), b"lying", Anything()):
            self.assert_raised(InvalidWay, {"given": way}, self.bench.put, *self.right[:3], way)
            self.assert_raised(InvalidWay, {"given": way}, self.bench.put, (1, 9, 0), *self.right[1:3], way)
            self.assert_raised(InvalidWay, {"given": way}, self.bench.put, *self.rows[0][:3], way)

    def test_errors_come_in_the_order_of_the_signature(self):
        x, y, side = (2, 2, 0), (1, 1), (1, 0, 0)
        self.assert_raised(InvalidNumber, {"given": x}, self.bench.put, x, y, side, "askew")
        self.assert_raised(InvalidNumber, {"given": y}, self.bench.put, (1, 9, 0), y, side, "askew")
        self.assert_raised(InvalidNumber, {"given": side}, self.bench.put, (1, 9, 0), (1, 9, 0), side, "askew")
        self.assert_raised(InvalidWay, {"given": "askew"}, self.bench.put, (1, 9, 0), (1, 9, 0), (1, 1, 0), "askew")

    def test_outside_comes_ahead_of_overlaps(self):
        x, y, side, way = self.rows[0]
        for given in (
            ((4, -1, 0), y, side, way), (x, (4, -1, 0), side, way), (x, y, (1, 1, 0), "lying"),
            (x, y, (1, 1, 0), "standing"),
        ):
            self.assert_raised(Outside, {}, self.bench.put, *given)

    def test_indexes(self):
        for value in ODD_VALUES + (2, -2, "0", (0,), 10 ** 30, Anything()):
            if value == 0 and value is not False and isinstance(value, int):
                continue
            self.assert_raised(InvalidIndex, {"given": value}, self.bench.take, value)
        empty = Bench(Shape(WIDE))
        self.assert_raised(InvalidIndex, {"given": 0}, empty.take, 0)


class Places(Raises, unittest.TestCase):
    def test_outside_by_little_and_touching_from_within(self):
        little = Fraction(1, 10 ** 100)
        half = Fraction(1, 2)
        for way, (wide, high) in (("lying", (1, half)), ("standing", (half, 1))):
            for x, y in product((0, 1 - wide), (0, 1 - high)):
                bench = filled(TWO, panes((x, y, half, way)))
                self.assertEqual((bench.left, bench.changes), ((2, 1), 1))
                bench.undo()
                for dx, dy in ((0, little), (little, 0), (0, -little), (-little, 0)):
                    row = panes((x + dx, y + dy, half, way))[0]
                    if 0 <= x + dx <= 1 - wide and 0 <= y + dy <= 1 - high:
                        bench.put(*row)
                        bench.undo()
                    else:
                        self.assert_raised(Outside, {}, bench.put, *row)
                self.assert_raised(Outside, {}, bench.put, *panes((x, y, half + little, way))[0])
                self.assertEqual(bench.panes, ())

    def test_the_first_of_the_panes_met_is_told(self):
        quarter = Fraction(1, 4)
        rows = panes(*[(x * quarter * 2, y * quarter, quarter, "lying") for x, y in ((1, 3), (0, 0), (1, 0), (0, 3))])
        bench = filled(TWO, rows)
        half = Fraction(1, 2)
        for x, y, side, way, index in (
            (0, 0, half, "lying", 1), (0, half, half, "lying", 0), (half, 0, half, "standing", 0),
            (0, 0, half, "standing", 1), (half, 0, quarter, "standing", 2), (0, half, quarter, "standing", 3),
            (quarter, 0, half, "standing", 0), (half - Fraction(1, 10 ** 60), 0, quarter, "lying", 1),
        ):
            self.assert_raised(Overlaps, {"index": index}, bench.put, *panes((x, y, side, way))[0])
        bench.put(*panes((0, quarter, half, "lying"))[0])
        self.assertTrue(bench.is_full)
        bench.take(0)
        for x, y, side, way, index in (
            (0, 0, half, "lying", 0), (0, half, half, "lying", 2), (half, 0, half, "standing", 1),
        ):
            self.assert_raised(Overlaps, {"index": index}, bench.put, *panes((x, y, side, way))[0])
        bench.undo()
        self.assertEqual(bench.panes[:4], rows)

    def test_places_that_differ_by_little(self):
        """Of the square root of 2 places differ by powers of 1 less than it, which are numbers with long integers."""
        ruler = Ruler("root 1 of -2 0 1")
        side, tiny = (4, 1, 0), ruler.parts((1, -1, 1))
        for _ in range(6):
            tiny = ruler.mul(tiny, tiny)
        self.assertEqual(ruler.sign(tiny), 1)
        zero, step = (1, 0, 0), ruler.number(tiny)
        back = ruler.number(ruler.scaled(-1, tiny))
        right = (4, 0, 1)
        bench = filled("root 1 of -2 0 1", [(zero, zero, side, "lying")])
        self.assert_raised(Outside, {}, bench.put, zero, back, side, "lying")
        self.assert_raised(Outside, {}, bench.put, back, zero, side, "lying")
        self.assert_raised(Overlaps, {"index": 0}, bench.put, step, zero, side, "lying")
        close = ruler.number(ruler.less(ruler.parts(right), tiny))
        self.assert_raised(Overlaps, {"index": 0}, bench.put, close, zero, side, "lying")
        under = ruler.number(ruler.less(ruler.parts(side), tiny))
        self.assert_raised(Overlaps, {"index": 0}, bench.put, zero, under, side, "lying")
        bench.put(right, zero, side, "lying")
        bench.put(ruler.number(ruler.add(ruler.parts(right), tiny)), side, side, "lying")
        bench.put(zero, side, side, "lying")
        self.assertEqual(bench.changes, 4)

    def test_panes_in_others(self):
        for text in ("root 0 of -3 2", WIDE, "root 1 of -2 0 1"):
            shape = Shape(text)
            number = [number_of(shape, pair) for pair in ((0, 1), (1, 10), (1, 20), (1, 5), (3, 20))]
            for way in ("lying", "standing"):
                bench = filled(text, [(number[1], number[1], number[3], way)])
                for x, y, side in ((1, 1, 1), (1, 1, 3), (1, 1, 2), (4, 4, 2), (2, 2, 3), (1, 4, 2)):
                    given = (number[x], number[y], number[side], way)
                    plain = Plain(Ruler(text))
                    plain.rows[-1].extend(bench.panes)
                    self.assertEqual(plain.outcome(given), 0)
                    self.assert_raised(Overlaps, {"index": 0}, bench.put, *given)


class LongRows(Raises, unittest.TestCase):
    def test_changes_at_random_against_plain_lists(self):
        for seed, (text, _, _) in enumerate(STRETCHES):
            if seed not in (2, 3):
                self.run_changes(text, seed)

    def run_changes(self, text, seed):
        pick, ruler = Random(seed), Ruler(text)
        bench, plain = Bench(ruler.shape), Plain(ruler)
        for _ in range(45):
            word = pick.choice(("put", "put", "put", "beside", "take", "undo"))
            rows = plain.rows[-1]
            if word in ("put", "beside"):
                pane = self.some_pane(pick, ruler, rows if word == "beside" else [])
                found = plain.outcome(pane)
                if found is None:
                    self.assertIsNone(bench.put(*pane))
                    plain.rows.append(rows + [pane])
                elif found == "outside":
                    self.assert_raised(Outside, {}, bench.put, *pane)
                else:
                    self.assert_raised(Overlaps, {"index": found}, bench.put, *pane)
            elif word == "take" and rows:
                index = pick.randrange(len(rows))
                self.assertIsNone(bench.take(index))
                plain.rows.append(rows[:index] + rows[index + 1:])
            elif word == "undo" and len(plain.rows) > 1:
                self.assertIsNone(bench.undo())
                plain.rows.pop()
            self.assert_alike(bench, plain)
        while len(plain.rows) > 1:
            bench.undo()
            plain.rows.pop()
            self.assert_alike(bench, plain)

    def some_pane(self, pick, ruler, rows):
        """A pane at some place, or one that stands exactly at another one."""
        zeros = (0,) * (ruler.degree - 1)
        # Most of them fit: the side is not more than half of 1 by the shape.
        side = ((int(ruler.at) + 1) * pick.randint(2, 9), 1) + zeros
        x, y = [fraction(Fraction(pick.randint(0, 7), 8)) + zeros for _ in range(2)]
        if rows:
            left, low, right, top = ruler.edges(pick.choice(rows))
            x, y = [ruler.number(part) for part in pick.choice([(right, low), (left, top), (right, top)])]
        return x, y, side, pick.choice(("lying", "standing"))

    def assert_alike(self, bench, plain):
        left = plain.left()
        self.assertEqual(bench.panes, tuple(plain.rows[-1]))
        self.assertEqual(bench.left, left)
        self.assertIs(bench.is_full, not any(left[1:]))
        self.assertEqual(bench.changes, len(plain.rows) - 1)

    def test_more_panes_than_any_limit(self):
        """A bench knows no greatest number of panes."""
        bench = Bench(Shape("root 0 of -1 1"))
        side = Fraction(1, 24)
        rows = panes(*[(x * side, y * side, side, "lying") for x in range(24) for y in range(24)])
        for row in rows:
            bench.put(*row)
        self.assertTrue(bench.is_full)
        self.assertEqual((len(bench.panes), bench.changes), (576, 576))
        self.assert_raised(Overlaps, {"index": 575}, bench.put, *rows[-1])
        for many in range(576, 0, -1):
            self.assertEqual(bench.panes, rows[:many])
            bench.undo()
        self.assertEqual((bench.left, bench.panes), ((1, 1), ()))


if __name__ == "__main__":
    unittest.main()

import unittest
from functools import cache

from known import (
    ODD_VALUES, STRETCHES, Raises, Ruler, all_trees, parted_by, real_places, rest_of, single_terms, square_terms,
    told_shapes,
    tree_ratio,
)
from likepanes.errors import InvalidCount, NotAShape
from likepanes.few import fewest, fillings, shapes_with
from likepanes.numbers import number_of
from likepanes.shapes import Shape
from likepanes.trees import plain, ratio

# Every plain tree with up to three panes.
WRITTEN = (
    ("l", "s"),
    ("(l l)", "(l s)", "(s s)", "[l l]", "[l s]", "[s s]"),
    (
        "(l l l)", "(l l s)", "(l s s)", "(s s s)", "[l l l]", "[l l s]", "[l s s]", "[s s s]",
        "([l l] l)", "([l l] s)", "([l s] l)", "([l s] s)", "([s s] l)", "([s s] s)",
        "[(l l) l]", "[(l l) s]", "[(l s) l]", "[(l s) s]", "[(s s) l]", "[(s s) s]",
    ),
)

# All that fills a square with so many panes.
FILLED = (
    ("root 0 of -1 1", 1, ("l", "s")),
    ("root 0 of -1 1", 2, ()),
    ("root 0 of -1 1", 3, ()),
    ("root 0 of -2 1", 1, ()),
    ("root 0 of -2 1", 2, ("(l l)", "[s s]")),
    ("root 0 of -2 1", 3, ()),
    ("root 0 of -1 2", 2, ("(s s)", "[l l]")),
    ("root 0 of -3 1", 3, ("(l l l)", "[s s s]")),
    ("root 0 of -1 3", 3, ("(s s s)", "[l l l]")),
    ("root 0 of -3 2", 3, ("([l l] l)", "[(s s) s]")),
    ("root 0 of -2 3", 3, ("([s s] s)", "[(l l) l]")),
    ("root 0 of -1 1 -2 1", 3, ("([l s] l)", "[(l s) s]")),
    ("root 0 of -1 2 -1 1", 3, ("([l s] s)", "[(l s) l]")),
    ("root 0 of -4 1", 4, ("(l l l l)", "[s s s s]")),
    ("root 0 of -5 1", 5, ("(l l l l l)", "[s s s s s]")),
    ("root 0 of -1 5", 5, ("(s s s s s)", "[l l l l l]")),
    ("root 0 of 3 -6 2", 5, ("([l l] [s s s])", "[(l l l) (s s)]")),
    ("root 1 of 3 -6 2", 5, ("([l l] [s s s])", "[(l l l) (s s)]")),
)

# Rows of columns that make a square of four squares.
SQUARES = ("([l l] [l l])", "([l l] [l s])", "([l l] [s s])", "([l s] [l s])", "([l s] [s s])", "([s s] [s s])")

FEWEST = (
    ("root 0 of -1 1", 1), ("root 0 of -2 1", 2), ("root 0 of -1 2", 2), ("root 0 of -3 2", 3), ("root 0 of -2 3", 3),
    ("root 0 of -3 1", 3), ("root 0 of -1 1 -2 1", 3), ("root 0 of -1 2 -1 1", 3), ("root 0 of -4 1", 4),
    ("root 0 of -4 3", 4),
    ("root 0 of -5 1", 5), ("root 0 of 3 -6 2", 5), ("root 1 of 2 -6 3", 5), ("root 0 of -6 1", None),
    ("root 1 of 2 -4 1", None),
    ("root 0 of 2 -4 1", None), ("root 1 of -2 0 1", None), ("root 1 of -1 -1 1", None), ("root 0 of -1000 999", None),
    ("root 0 of -2 0 0 0 0 1", None),
)

OTHER_COUNTS = (
    0, -1, 10 ** 399, True, False, None, "1", "", b"1", (1,), (), [1], {}, {1: 1}, "l", object(), int, range(1, 2),
)


class Fillings(unittest.TestCase):
    def test_known_fillings(self):
        for text, many, wanted in FILLED:
            with self.subTest(text=text, many=many):
                self.assertEqual(fillings(Shape(text), many), wanted)
                self.assertEqual(fillings(panes=many, shape=Shape(text)), wanted)

    def test_squares(self):
        mirrored = tuple(sorted("[(" + ") (".join(parts) + ")]" for parts in (
            ("l l", "l l"), ("l l", "l s"), ("l l", "s s"), ("l s", "l s"), ("l s", "s s"), ("s s", "s s"))))
        self.assertEqual(fillings(Shape("root 0 of -1 1"), 4), SQUARES + mirrored)
        self.assertEqual(fillings(Shape("root 0 of -1 1"), 5), ())

    def test_trees_written_one_by_one(self):
        for many, trees in enumerate(WRITTEN, 1):
            self.assertEqual(sorted(trees), sorted(all_trees(many)))
            for tree in trees:
                self.assertEqual(plain(tree), tree)
            for text in some_texts():
                shape = Shape(text)
                unit = number_of(shape, (1, 1))
                wanted = tuple(sorted(tree for tree in trees if ratio(shape, tree) == unit))
                self.assertEqual(fillings(shape, many), wanted)

    def test_all_trees_in_the_own_way(self):
        found = 0
        for many in range(1, 6):
            for text in some_texts():
                shape = Shape(text)
                told = fillings(shape, many)
                self.assertEqual(told, own_fillings(shape.equation, many))
                self.assertEqual([type(value) for value in (told, *told)], [tuple] + [str] * len(told))
                found += len(told)
        self.assertGreater(found, 60)

    def test_ratios_in_the_own_way(self):
        for text in ("root 0 of -3 2", "root 0 of -1 1 -2 1", "root 0 of 3 -6 2", "root 0 of -4 3"):
            ruler = Ruler(text)
            for many in (1, 2, 3, 4):
                wanted = [tree for tree, parts in all_trees(many).items() if tree_ratio(ruler, parts) == ruler.unit]
                self.assertEqual(fillings(ruler.shape, many), tuple(sorted(wanted)))


class Fewest(unittest.TestCase):
    def test_known_shapes(self):
        for text, wanted in FEWEST:
            with self.subTest(text=text):
                self.assertEqual(fewest(Shape(text)), wanted)
                self.assertEqual(fewest(shape=Shape(text)), wanted)
                self.assertIs(type(fewest(Shape(text))), type(wanted))

    def test_all_trees_in_the_own_way(self):
        for text in some_texts():
            shape = Shape(text)
            counts = [many for many in range(1, 6) if own_fillings(shape.equation, many)]
            self.assertEqual(fewest(shape), counts[0] if counts else None)


class ShapesWith(unittest.TestCase):
    def test_known_shapes(self):
        for many, wanted in (
            (1, ("root 0 of -1 1",)), (2, ("root 0 of -2 1",)),
            (3, ("root 0 of -3 2", "root 0 of -1 1 -2 1", "root 0 of -3 1")),
        ):
            self.assertEqual(shapes_with(many), wanted)
            self.assertEqual(shapes_with(panes=many), wanted)

    def test_all_trees_in_the_own_way(self):
        for many in range(1, 5):
            told = shapes_with(many)
            self.assertEqual([type(value) for value in (told, *told)], [tuple] + [str] * len(told))
            equations = [tuple(int(word) for word in text.split(" ")[3:]) for text in told]
            used = [0] * len(told)
            for tree in all_trees(many).values():
                terms = square_terms(tree)
                here = [at for at, equation in enumerate(equations) if rest_of(terms, equation) == ()]
                for at in here:
                    used[at] += 1
                self.assertEqual(len(here), own_count_from_1(terms), tree)
            self.assertNotIn(0, used)
            places = [Ruler(text).at for text in told]
            self.assertEqual(places, sorted(places))
            self.assertEqual(len(set(told)), len(told))
            self.assertGreaterEqual(places[0], 1)

    def test_they_are_those_that_have_fillings(self):
        for many in range(1, 5):
            told = shapes_with(many)
            for text in told:
                self.assertNotEqual(fillings(Shape(text), many), ())
            for text in some_texts():
                if Ruler(text).at >= 1:
                    self.assertEqual(text in told, fillings(Shape(text), many) != ())

    def test_with_four_panes(self):
        told = shapes_with(4)
        self.assertEqual(told[:2] + told[-1:], ("root 0 of -1 1", "root 0 of -4 3", "root 0 of -4 1"))
        self.assertEqual(len(told), 11)


class Errors(unittest.TestCase, Raises):
    def test_what_is_no_shape(self):
        for value in (*ODD_VALUES, "root 0 of -1 1", (-1, 1), Shape):
            with self.subTest(value=repr(value)[:40]):
                self.assert_raised(NotAShape, {"given": value}, fewest, value)
                for count in (1, 6, None, "x"):
                    self.assert_raised(NotAShape, {"given": value}, fillings, value, count)

    def test_what_is_no_count(self):
        shape = Shape("root 0 of -2 1")
        for value in (*OTHER_COUNTS, *ODD_VALUES, shape):
            with self.subTest(value=repr(value)[:40]):
                self.assert_raised(InvalidCount, {"given": value}, fillings, shape, value)
                self.assert_raised(InvalidCount, {"given": value}, shapes_with, value)

    def test_counts_beyond_the_limits(self):
        for value in (6, 7, 12, 500):
            self.assert_raised(InvalidCount, {"given": value}, fillings, Shape("root 0 of -2 1"), value)
        for value in (5, 6, 7, 12, 500):
            self.assert_raised(InvalidCount, {"given": value}, shapes_with, value)


def some_texts():
    """Texts of shapes, many of which fill a square with few panes."""
    found = [text for text, _ in FEWEST] + [text for text, _, _ in STRETCHES] + [text for text, _, _ in FILLED]
    for degree in range(1, 6):
        found.extend(text for text, _ in told_shapes(degree, 6, 80 + degree))
    for top in range(1, 7):
        found.extend(Shape.of((-top, low), (0, 1), (9, 1)).text for low in range(1, 7))
    found.extend(f"root {rank} of 1 -3 3 -4 2" for rank in (0, 1))
    found.extend(f"root 0 of {terms}" for terms in ("-1 1 -3 2", "-2 2 -2 1", "-2 2 -3 1"))
    return sorted(set(found))


def own_fillings(equation, many):
    """The texts of all trees whose square is a multiple of the equation, ascending."""
    return tuple(sorted(text for text, terms in squares(many) if rest_of(terms, equation) == ()))


@cache
def squares(many):
    """Each tree with so many panes with the sum of powers that is 0 where it fills the square."""
    return [(text, square_terms(tree)) for text, tree in all_trees(many).items()]


def own_count_from_1(terms):
    """How many different roots from 1 on a sum of powers has."""
    single, many = single_terms(terms), 0
    if sum(single) == 0:
        single, many = tuple(int(part) for part in parted_by(single, (-1, 1))[0]), 1
    return many + (len([place for place in real_places(single, 60) if place >= 1 << 60]) if len(single) > 1 else 0)


if __name__ == "__main__":
    unittest.main()

import unittest
from fractions import Fraction
from random import Random

from known import (
    ODD_VALUES, WHEEL, WRONG_NUMBERS, Raises, Ruler, all_trees, panes, real_places, rest_of, single_terms, some_trees,
    square_terms,
    tree_ratio, tree_text,
)
from likepanes.cutting import cut_square, is_cutting
from likepanes.errors import InvalidNumber, InvalidTree, NotAShape, NotFilled, NotPositive, TooMany
from likepanes.numbers import number_of, product, total
from likepanes.shapes import Shape
from likepanes.trees import laid, panes_of, plain, ratio, shapes_of, tree_of

TWO = Shape("root 0 of -3 2")
DOUBLE = Shape("root 0 of -2 1")
WIDE = Shape("root 1 of 2 -4 1")
ROOT_TWO = Shape("root 1 of -2 0 1")
GOLDEN = Shape("root 1 of -1 -1 1")

TEXTS = (
    "root 0 of -3 2", "root 0 of -1 1", "root 0 of -1 1000", "root 1 of 2 -4 1", "root 1 of -2 0 1",
    "root 1 of -1 1000 3",
    "root 0 of -1 1 -2 1", "root 3 of 1 0 -10 0 1", "root 0 of -2 0 0 0 0 1", "root 0 of -971 1000 -3 1 0 997",
)

DEEP = "[l (s " * 5 + "[l s]" + ")]" * 5

# Trees with how many panes they have and the plain ones alike to them.
TREES = (
    ("l", 1, "l"), ("s", 1, "s"), ("[l l]", 2, "[l l]"), ("[l s]", 2, "[l s]"), ("[s l]", 2, "[l s]"),
    ("(s l)", 2, "(l s)"),
    ("(s s)", 2, "(s s)"), ("[s l s l]", 4, "[l l s s]"), ("[(l l) s]", 3, "[(l l) s]"), ("[s (l l)]", 3, "[(l l) s]"),
    ("([l l] s)", 3, "([l l] s)"), ("(s [l l])", 3, "([l l] s)"), ("[s [l (s l)]]", 4, "[(l s) l s]"),
    ("[[l s] [l s]]", 4, "[l l s s]"), ("((l s) (l s))", 4, "(l l s s)"), ("[(l s) [l s]]", 4, "[(l s) l s]"),
    ("([s l] (s l))", 4, "([l s] l s)"), ("[[[[s l] s] l] s]", 5, "[l l s s s]"),
    ("(((l s) l) [(s s) s])", 6, "([(s s) s] l l s)"),
    ("[(s l) (l l)]", 4, "[(l l) (l s)]"), ("[(l s) (l l s)]", 5, "[(l l s) (l s)]"),
    ("[(l (l s)) (l s)]", 5, "[(l l s) (l s)]"),
    ("[(l [l l]) (l [l s])]", 6, "[([l l] l) ([l s] l)]"), ("[([s l] l) ([l l] s)]", 6, "[([l l] s) ([l s] l)]"),
    ("[(s l) ([s l] l) l (l l)]", 8, "[([l s] l) (l l) (l s) l]"),
    ("[l l l l l l l l l l l s]", 12, "[l l l l l l l l l l l s]"),
    ("(s l l l l l l l l l l l)", 12, "(l l l l l l l l l l l s)"),
    (DEEP, 12, "[([([([([([l s] s) l] s) l] s) l] s) l] s) l]"),
    ("[s [s [s [s [s [s [s [s [s [s [s l]]]]]]]]]]]", 12, "[l s s s s s s s s s s s]"),
    ("(((((((((((l l) l) l) l) l) l) l) l) l) l) l)", 12, "(l l l l l l l l l l l l)"),
)

WRONG_TREES = (
    "", " ", "\n", "x", "L", "S", "ls", "l l", "l s", " l", "l ", "l\n", "\nl", "[]", "()", "[l]", "(s)", "[ ]", "[l ]",
    "[ l]",
    "[ l s]", "[l s ]", "[l  s]", "[l s] ", " [l s]", "[l s", "l s]", "(l s", "l s)", "[l s)", "(l s]", "[ls]", "[l,s]",
    "[l, s]",
    "[l\ns]", "[l\ts]", "{l s}", "<l s>", "[l s][l s]", "[l s] [l s]", "[l s] l", "l [l s]", "[l s]l", "l[l s]",
    "[l[l s]]", "[l[ l s]]", "l[ l s]", "[l( l s) s]",
    "[l s](l s)", "[(l s)l]", "[l(l s)]", "[[l s]]", "((l s))", "[(l s)]", "[l [s]]", "[l (s)]", "[l []]", "[l ()]",
    "[l (l s]",
    "[l (l s])", "[l (l s) s", "[l (l s)) s]", "[l s]]", "[[l s]", "(l s))", "((l s)", "]l s[", "[l S]", "[1 2]",
    "[l 2]", "[l -s]",
    "[l lying]", "[l l s s t]", "[", "]", "(", ")", "[l", "[(", "[l (", "[l [", "()l", "[l l l l l l l l l l l l l]",
    "(" + "s " * 12 + "s)", "[(l l l l l l) (s s s s s s) l]", "[l " + DEEP + "]", "[" * 4000, "(" * 4000, "l" * 4000,
    " " * 4000,
    "[l " * 1333, "[l " * 12, "[l " * 12 + "l" + "]" * 12, "[" * 2000 + "]" * 2000, "]" * 4000,
    "[" * 1998 + "l s" + "]" * 1998,
    "[" + "l " * 1990 + "l]", "l\x00", "[l s}", "(l s}", "[l_s]", "[l  (s l)]", "[(s l)  l]", "[(s l) ]", "[( s l) l]",
    "[(s l ) l]",
)

# A shape, a tree, its ratio and the panes of its cutting of height 1.
LAID = (
    (TWO, "l", (2, 3), panes((0, 0, 1, "lying"))),
    (TWO, "s", (3, 2), panes((0, 0, Fraction(2, 3), "standing"))),
    (TWO, "[l s]", (6, 13), panes((0, 0, 1, "lying"), (Fraction(3, 2), 0, Fraction(2, 3), "standing"))),
    (TWO, "[s l]", (6, 13), panes((0, 0, Fraction(2, 3), "standing"), (Fraction(2, 3), 0, 1, "lying"))),
    (TWO, "(l s)", (13, 6), panes((0, 0, Fraction(4, 13), "lying"), (0, Fraction(4, 13), Fraction(6, 13), "standing"))),
    (TWO, "(s l)", (13, 6), panes((0, 0, Fraction(6, 13), "standing"), (0, Fraction(9, 13), Fraction(4, 13), "lying"))),
    (TWO, "[(l l) l]", (4, 9), panes(
        (0, 0, Fraction(1, 2), "lying"), (0, Fraction(1, 2), Fraction(1, 2), "lying"),
        (Fraction(3, 4), 0, 1, "lying"))),
    (TWO, "([l l] [l l])", (2, 3), panes(
        (0, 0, Fraction(1, 2), "lying"), (Fraction(3, 4), 0, Fraction(1, 2), "lying"),
        (0, Fraction(1, 2), Fraction(1, 2), "lying"), (Fraction(3, 4), Fraction(1, 2), Fraction(1, 2), "lying"))),
    (TWO, "[(s s s) l]", (18, 31), panes(
        (0, 0, Fraction(2, 9), "standing"), (0, Fraction(1, 3), Fraction(2, 9), "standing"),
        (0, Fraction(2, 3), Fraction(2, 9), "standing"), (Fraction(2, 9), 0, 1, "lying"))),
    (TWO, "[l (l s)]", (26, 51), panes(
        (0, 0, 1, "lying"), (Fraction(3, 2), 0, Fraction(4, 13), "lying"),
        (Fraction(3, 2), Fraction(4, 13), Fraction(6, 13), "standing"))),
    (TWO, "[(s s) s]", (1, 1), panes(
        (0, 0, Fraction(1, 3), "standing"), (0, Fraction(1, 2), Fraction(1, 3), "standing"),
        (Fraction(1, 3), 0, Fraction(2, 3), "standing"))),
    (ROOT_TWO, "[s s]", (1, 0, 1), (
        ((1, 0, 0), (1, 0, 0), (2, 0, 1), "standing"), ((2, 0, 1), (1, 0, 0), (2, 0, 1), "standing"))),
    (ROOT_TWO, "(l s)", (3, 0, 1), (
        ((1, 0, 0), (1, 0, 0), (3, 1, 0), "lying"), ((1, 0, 0), (3, 1, 0), (3, 0, 1), "standing"))),
    (GOLDEN, "[l s]", (1, -1, 2), (
        ((1, 0, 0), (1, 0, 0), (1, 1, 0), "lying"), ((1, 0, 1), (1, 0, 0), (1, -1, 1), "standing"))),
    (WIDE, "[(l l l l) (s s)]", (1, 1, 0), (
        *[((1, 0, 0), low, (4, 1, 0), "lying") for low in ((1, 0, 0), (4, 1, 0), (2, 1, 0), (4, 3, 0))],
        ((4, 0, 1), (1, 0, 0), (4, 4, -1), "standing"), ((4, 0, 1), (2, 1, 0), (4, 4, -1), "standing"))),
)

SHAPES = (
    ("l", ("root 0 of -1 1",)), ("s", ("root 0 of -1 1",)), ("[l l]", ("root 0 of -1 2",)),
    ("(l l)", ("root 0 of -2 1",)),
    ("[s s]", ("root 0 of -2 1",)), ("(s s)", ("root 0 of -1 2",)), ("[l s]", ()), ("(l s)", ()), ("[s l]", ()),
    ("[(l l) s]", ()), ("[l l s]", ()), ("[l (l s)]", ("root 0 of -1 2 -1 1",)),
    ("[s (l s)]", ("root 0 of -1 1 -2 1",)),
    ("(s [s l])", ("root 0 of -1 2 -1 1",)), ("(l [s l])", ("root 0 of -1 1 -2 1",)), ("[s s s]", ("root 0 of -3 1",)),
    ("(l l l)", ("root 0 of -3 1",)),
    ("[s (s s)]", ("root 0 of -3 2",)), ("[(l l) l]", ("root 0 of -2 3",)), ("[(l l) (l l)]", ("root 0 of -1 1",)),
    ("([s s] [s s])", ("root 0 of -1 1",)), ("[(l l l) l]", ("root 0 of -3 4",)),
    # r / 4 + 1 / r = 1 has one solution twice, r / 3 + 1 / (2 r) = 1 has two
    ("[(l l l l) s]", ("root 0 of -2 1",)), ("[(l l l) (s s)]", ("root 0 of 3 -6 2", "root 1 of 3 -6 2")),
    ("[(s s) (l l l)]", ("root 0 of 3 -6 2", "root 1 of 3 -6 2")),
    ("([s s s] [l l])", ("root 0 of 3 -6 2", "root 1 of 3 -6 2")),
    ("[(l (l l)) (s s)]", ("root 0 of 3 -6 2", "root 1 of 3 -6 2")), ("[l l l l l]", ("root 0 of -1 5",)),
    ("[s s s s s]", ("root 0 of -5 1",)),
)

# A shape, a tree by which panes are laid, and the one by which straight cuts part them.
PARTED = (
    (TWO, "l", "l"), (TWO, "s", "s"), (TWO, "[l s]", "[l s]"), (TWO, "[s l]", "[s l]"), (TWO, "(s l)", "(s l)"),
    (TWO, "[(l l) l]", "[(l l) l]"), (TWO, "([l l] [l l])", "[(l l) (l l)]"), (TWO, "[(l l) (l l)]", "[(l l) (l l)]"),
    (TWO, "([l s] [s l])", "([l s] [s l])"), (TWO, "([l s] [l s])", "[(l l) (s s)]"), (TWO, "[l [s l]]", "[l s l]"),
    (TWO, "((l s) (s l))", "(l s s l)"), (TWO, "[(s l) s (l s)]", "[(s l) s (l s)]"),
    (TWO, "[[s s] [(l s) [l l]]]", "[s s (l s) l l]"),
    (TWO, "([l l l] [l l l])", "[(l l) (l l) (l l)]"), (TWO, "([l l l] [l l])", "([l l l] [l l])"),
    (TWO, "([l l] [(l l) (l l)])", "[(l l l) (l l l)]"), (TWO, "([l l l l] [l l])", "[([l l] l) ([l l] l)]"),
    (TWO, "([l l] [l l l l] [l l])", "[(l [l l] l) (l [l l] l)]"), (TWO, "(([l s] [l s]) l)", "([l s] [l s] l)"),
    (TWO, "((l l) [(s l) l])", "(l l [(s l) l])"), (WIDE, "[(l l l l) (s s)]", "[(l l l l) (s s)]"),
    (WIDE, "([s l] s)", "([s l] s)"),
    (WIDE, DEEP, DEEP), (TWO, "[l l l l l l l l l l l l]", "[l l l l l l l l l l l l]"),
    (DOUBLE, "([l l] l)", "([l l] l)"),
    (DOUBLE, "([s s] l)", "([s s] l)"), (DOUBLE, "[s s (l l)]", "[s s (l l)]"),
    (DOUBLE, "([s s] [s s])", "[(s s) (s s)]"),
    # of a wall of 2 by 2 squares, each of two panes, straight lines go all along the lying ones
    (DOUBLE, "([(l l) (l l)] [(l l) (l l)])", "[(l l l l) (l l l l)]"),
    (DOUBLE, "([[s s] (l l)] [(l l) [s s]])", "[([s s] l l) (l l [s s])]"),
)


class Texts(unittest.TestCase):
    def test_panes_and_plain_trees(self):
        for tree, many, wanted in TREES:
            with self.subTest(tree=tree):
                self.assertIs(type(panes_of(tree)), int)
                self.assertEqual(panes_of(tree), many)
                self.assertEqual(panes_of(tree=tree), many)
                self.assertEqual(plain(tree), wanted)
                self.assertEqual(plain(tree=tree), wanted)
                self.assertEqual(plain(wanted), wanted)
                self.assertEqual(panes_of(wanted), many)

    def test_all_plain_trees_with_few_panes_stay_as_they_are(self):
        for many in range(1, 6):
            for text in all_trees(many):
                self.assertEqual(plain(text), text)
                self.assertEqual(panes_of(text), many)

    def test_other_orders_and_brackets_are_alike(self):
        pick = Random(23)
        for panes_in_it in range(1, 13):
            for tree in some_trees(25, panes_in_it, panes_in_it):
                told = plain(tree_text(tree))
                self.assertEqual(plain(tree_text(mixed(pick, tree))), told)
                self.assertEqual(told, own_plain(tree))
                self.assertEqual(panes_of(told), panes_in_it)
                self.assertEqual(ratio(WIDE, told), ratio(WIDE, tree_text(tree)))


class Ratios(unittest.TestCase):
    def test_trees_laid_by_hand(self):
        for shape, tree, wanted, some in LAID:
            with self.subTest(text=shape.text, tree=tree):
                self.assertEqual(ratio(shape, tree), wanted)
                self.assertEqual(ratio(tree=tree, shape=shape), wanted)
                self.assertEqual(laid(shape, tree), some)
                self.assertEqual(laid(tree=tree, shape=shape), some)
                self.assertIs(is_cutting(shape, some, wanted, number_of(shape, (1, 1))), True)

    def test_ratios_and_cuttings_in_the_own_way(self):
        for seed, text in enumerate(TEXTS):
            ruler = Ruler(text)
            trees = [tree for many in (1, 2, 3, 4, 5, 7, 12) for tree in some_trees(3, many, seed + 10 * many)]
            for tree in trees:
                with self.subTest(text=text, tree=tree_text(tree)):
                    self.assertEqual(ratio(ruler.shape, tree_text(tree)), ruler.number(tree_ratio(ruler, tree)))
                    self.assertEqual(laid(ruler.shape, tree_text(tree)), own_laid(ruler, tree))

    def test_a_laid_tree_fills_its_rectangle(self):
        for seed, text in enumerate(TEXTS[:8]):
            ruler = Ruler(text)
            for tree in some_trees(6, 3 + seed, 70 + seed):
                some, wide = laid(ruler.shape, tree_text(tree)), tree_ratio(ruler, tree)
                self.assertTrue(ruler.fills(some, wide, ruler.unit))
                self.assertEqual("".join(pane[3][0] for pane in some), "".join(c for c in tree_text(tree) if c in "ls"))

    def test_twelve_panes_are_taken(self):
        self.assertEqual(ratio(TWO, "[" + "l " * 11 + "l]"), (1, 18))
        self.assertEqual(len(laid(TWO, "(" + "l " * 11 + "s)")), 12)
        self.assertEqual(len(laid(WIDE, DEEP)), 12)


class Solved(unittest.TestCase):
    def test_known_shapes(self):
        for tree, wanted in SHAPES:
            with self.subTest(tree=tree):
                self.assertEqual(shapes_of(tree), wanted)
                self.assertEqual(shapes_of(tree=tree), wanted)

    def test_all_trees_with_up_to_five_panes(self):
        several = 0
        for many in range(1, 6):
            for text, tree in all_trees(many).items():
                told = shapes_of(text)
                self.assertEqual(len(told), own_count(square_terms(tree)), text)
                several += len(told) > 1
                places = []
                for found in told:
                    shape = Shape(found)
                    self.assertEqual(rest_of(square_terms(tree), shape.equation), (), (text, found))
                    places.append(Ruler(found).at)
                self.assertEqual(places, sorted(places))
                self.assertEqual(len(set(told)), len(told))
        self.assertGreater(several, 5)

    def test_alike_trees_have_the_same_shapes(self):
        pick = Random(31)
        for tree in some_trees(40, 5, 4):
            self.assertEqual(shapes_of(tree_text(tree)), shapes_of(tree_text(mixed(pick, tree))))
            self.assertEqual(shapes_of(tree_text(tree)), shapes_of(plain(tree_text(tree))))


class Parted(unittest.TestCase):
    def test_laid_trees(self):
        pick = Random(3)
        for shape, tree, wanted in PARTED:
            with self.subTest(text=shape.text, tree=tree):
                some, wide, unit = list(laid(shape, tree)), ratio(shape, tree), number_of(shape, (1, 1))
                self.assertEqual(tree_of(shape, tuple(some), wide, unit), wanted)
                self.assertEqual(tree_of(height=unit, width=wide, panes=tuple(some), shape=shape), wanted)
                pick.shuffle(some)
                self.assertEqual(tree_of(shape, tuple(some), wide, unit), wanted)

    def test_other_sizes(self):
        for shape, tree, wanted in PARTED:
            for size in (number_of(shape, (7, 3)), number_of(shape, (1, 10 ** 30))):
                some = tuple(
                    (*[product(shape, size, part) for part in pane[:3]], pane[3]) for pane in laid(shape, tree))
                self.assertEqual(tree_of(shape, some, product(shape, size, ratio(shape, tree)), size), wanted)

    def test_cuttings_that_straight_cuts_do_not_part(self):
        beside = WHEEL + panes((3, 0, Fraction(3, 2), "standing"))
        raised = tuple((pane[0], total(DOUBLE, pane[1], (2, 3)), *pane[2:]) for pane in WHEEL)
        upon = panes((0, 0, Fraction(3, 2), "lying")) + raised
        for some, width, height in (
            (WHEEL, (1, 3), (1, 3)), (WHEEL[::-1], (1, 3), (1, 3)), (beside, (2, 9), (1, 3)), (upon, (1, 3), (2, 9)),
        ):
            self.assertIs(is_cutting(DOUBLE, some, width, height), True)
            self.assertIsNone(tree_of(DOUBLE, some, width, height))
            self.assertIsNone(tree_of(height=height, width=width, panes=some, shape=DOUBLE))

    def test_a_tree_of_a_told_cutting_fills_the_square(self):
        for text in (
            "root 1 of 2 -4 1", "root 0 of -3 2", "root 0 of -1 1", "root 0 of -1 1 -2 1", "root 0 of -2 8 -4 10 -1 2",
        ):
            shape = Shape(text)
            told, unit = cut_square(shape), number_of(shape, (1, 1))
            tree = tree_of(shape, told, unit, unit)
            self.assertEqual(ratio(shape, tree), unit)
            self.assertEqual(panes_of(tree), len(told))

    def test_own_way(self):
        for seed, text in enumerate(TEXTS):
            ruler, shape = Ruler(text), Shape(text)
            for many in (2, 3, 5, 6, 8, 12):
                for tree in some_trees(4, many, 90 + seed + many):
                    some, wide = laid(shape, tree_text(tree)), ratio(shape, tree_text(tree))
                    boxes = ruler.boxes([ruler.edges(pane) for pane in some])
                    wanted = own_parted([(*box, pane[3][0]) for box, pane in zip(boxes, some)])
                    self.assertEqual(tree_of(shape, some, wide, number_of(shape, (1, 1))), wanted)
                    self.assertEqual(ratio(shape, wanted), wide)


class Errors(unittest.TestCase, Raises):
    def test_what_is_no_tree(self):
        for value in (*WRONG_TREES, *ODD_VALUES, TWO, ("[", "l", "s"), ["l"], ("l",), b"l", {"l": 1}):
            with self.subTest(value=repr(value)[:40]):
                for function in (panes_of, plain, shapes_of):
                    self.assert_raised(InvalidTree, {"given": value}, function, value)
                for function in (ratio, laid):
                    self.assert_raised(InvalidTree, {"given": value}, function, WIDE, value)
                    self.assert_raised(InvalidTree, {"given": value}, function, TWO, value)

    def test_what_is_no_shape(self):
        for value in (*ODD_VALUES, "root 1 of 2 -4 1", (2, -4, 1), Shape, "l"):
            with self.subTest(value=repr(value)[:40]):
                for function in (ratio, laid):
                    for tree in ("[l s]", "", None, [1]):
                        self.assert_raised(NotAShape, {"given": value}, function, value, tree)
                for other in (None, (), (1, 0), [1]):
                    self.assert_raised(NotAShape, {"given": value}, tree_of, value, other, other, other)

    def test_trees_of_more_than_five_panes_have_too_many_shapes(self):
        for tree in (
            "[l l l l l l]", "[(l l l l) (s s)]", "(s [l l l l l])", DEEP, "[" + "s " * 11 + "s]",
            "((l s) (l s) (l s))",
        ):
            self.assert_raised(TooMany, {"limit": 5}, shapes_of, tree)
        # Those that are no trees are told so first.
        for tree in ("[l l l l l l", "[" + "s " * 12 + "s]", "l l l l l l l", "[l l l l l l x]"):
            self.assert_raised(InvalidTree, {"given": tree}, shapes_of, tree)

    def test_what_is_no_width_or_height(self):
        for value in (*WRONG_NUMBERS, *ODD_VALUES):
            for some in (laid(WIDE, "[l s]"), None, [1], ()):
                with self.subTest(value=repr(value)[:40]):
                    for other in ((1, 1, 0), (1, 0, 0), None, [1]):
                        self.assert_raised(InvalidNumber, {"given": value}, tree_of, WIDE, some, value, other)
                    for other in ((1, 1, 0), (1, 0, 0), (1, -1, 0)):
                        self.assert_raised(InvalidNumber, {"given": value}, tree_of, WIDE, some, other, value)

    def test_a_width_or_a_height_that_is_not_above_nought(self):
        for low in ((1, 0, 0), (1, -1, 0), (1, 3, -1), (1, 0, -1)):
            for some in (laid(WIDE, "[l s]"), laid(WIDE, "l") * 13, None, [1], ()):
                for other in ((1, 1, 0), (1, 0, 0), (1, -1, 0)):
                    self.assert_raised(NotPositive, {}, tree_of, WIDE, some, low, other)
                    self.assert_raised(NotPositive, {}, tree_of, WIDE, some, other, low)

    def test_what_does_not_fill(self):
        one, wide = (1, 1, 0), ratio(WIDE, "[l s]")
        right = laid(WIDE, "[l s]")
        for some in (
            *ODD_VALUES, list(right), right[1:], right + right[:1], right * 7, right[:1] * 13, (right,),
            right + (None,), "[l s]",
            ((1, 0, 0), (1, 0, 0), (1, 1, 0), "lying"), tuple((*pane[:3], "l") for pane in right), WIDE,
        ):
            with self.subTest(some=repr(some)[:40]):
                self.assert_raised(NotFilled, {}, tree_of, WIDE, some, wide, one)
        self.assert_raised(NotFilled, {}, tree_of, WIDE, right, one, wide)
        self.assert_raised(NotFilled, {}, tree_of, WIDE, right, wide, wide)
        self.assertEqual(tree_of(WIDE, right, wide, one), "[l s]")

    def test_more_than_twelve_panes(self):
        for many in (12, 13, 14, 40, 600):
            row = tuple(((1, 3 * at), (1, 0), (1, 2), "lying") for at in range(many))
            if many == 12:
                self.assertEqual(tree_of(TWO, row, (1, 3 * many), (1, 2)), "[" + " ".join("l" * 12) + "]")
            else:
                self.assert_raised(TooMany, {"limit": 12}, tree_of, TWO, row, (1, 3 * many), (1, 2))
                self.assert_raised(NotFilled, {}, tree_of, TWO, row, (1, 3 * many + 1), (1, 2))
        # Those that straight cuts do not part have too many, too.
        row = WHEEL + tuple((total(DOUBLE, pane[0], (1, 3)), *pane[1:]) for pane in WHEEL)
        self.assertIsNone(tree_of(DOUBLE, row, (1, 6), (1, 3)))
        row += tuple((total(DOUBLE, pane[0], (1, 6)), *pane[1:]) for pane in WHEEL)
        self.assert_raised(TooMany, {"limit": 12}, tree_of, DOUBLE, row, (1, 9), (1, 3))

    def test_nothing_given_is_changed(self):
        inner = ["l", "s"]
        self.assert_raised(InvalidTree, {"given": inner}, plain, inner)
        self.assert_raised(NotFilled, {}, tree_of, TWO, inner, (1, 1), (1, 1))
        self.assertEqual(inner, ["l", "s"])


def own_plain(tree):
    """The text of the plain tree, by taking brackets out as long as any stand in ones of their kind."""
    if isinstance(tree, str):
        return tree
    parts = list(tree[1:])
    while any(part[0] == tree[0] for part in parts):
        at = [part[0] for part in parts].index(tree[0])
        parts[at:at + 1] = parts[at][1:]
    return tree[0] + " ".join(sorted(own_plain(part) for part in parts)) + {"[": "]", "(": ")"}[tree[0]]


def mixed(pick, tree):
    """A tree alike to this one: other orders, and brackets more."""
    if isinstance(tree, str):
        return tree
    parts = [mixed(pick, part) for part in tree[1:]]
    pick.shuffle(parts)
    if len(parts) > 2 and pick.random() < 0.5:
        parts[:2] = [(tree[0], *parts[:2])]
    return (tree[0], *parts)


def own_laid(ruler, tree):
    """The cutting of height 1, from widths and heights of rectangles."""
    found = []

    def lay(tree, x, y, width, height):
        if isinstance(tree, str):
            side, way = (height, "lying") if tree == "l" else (width, "standing")
            found.append((ruler.number(x), ruler.number(y), ruler.number(side), way))
            return
        for part in tree[1:]:
            if tree[0] == "[":
                wide = ruler.mul(tree_ratio(ruler, part), height)
                lay(part, x, y, wide, height)
                x = ruler.add(x, wide)
            else:
                high = ruler.mul(ruler.inverse(tree_ratio(ruler, part)), width)
                lay(part, x, y, width, high)
                y = ruler.add(y, high)

    lay(tree, ruler.nought, ruler.nought, tree_ratio(ruler, tree), ruler.unit)
    return tuple(found)


def own_parted(boxes):
    """The text by which straight lines part boxes, each edge being tried as a line."""
    if len(boxes) == 1:
        return boxes[0][4]
    for kind, start, end in (("[", 0, 2), ("(", 1, 3)):
        lines = [
            line for line in sorted({box[start] for box in boxes})
            if not any(box[start] < line < box[end] for box in boxes)
        ]
        if len(lines) > 1:
            groups = [
                [box for box in boxes if low <= box[start] and (high is None or box[start] < high)]
                for low, high in zip(lines, [*lines[1:], None])
            ]
            return kind + " ".join(own_parted(group) for group in groups) + {"[": "]", "(": ")"}[kind]
    return None


def own_count(terms):
    """How many different roots above 0 a sum of powers has."""
    single = single_terms(terms)
    return len([place for place in real_places(single, 60) if place >= 0]) if len(single) > 1 else 0


if __name__ == "__main__":
    unittest.main()

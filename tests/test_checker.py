"""The checker with right papers and wrong ones, with false claims, and with what is neither claim nor paper."""

import unittest
from fractions import Fraction
from random import Random

from known import ODD_VALUES, STRETCHES, WHEEL, Anything, Ruler, fraction, panes, told_shapes, tree_ratio, tree_text
from likepanes.benches import Bench
from likepanes.checker import accepts
from likepanes.cutting import cut_square
from likepanes.desks import Desk
from likepanes.limits import MOST_PANES
from likepanes.numbers import number_of, opposite, product, total
from likepanes.shapes import Shape

ONE, TWO, HALF, TALL = "root 0 of -1 1", "root 0 of -2 1", "root 0 of -1 2", "root 0 of -3 2"
WIDE, SLIM, CUBIC = "root 1 of 2 -4 1", "root 0 of 2 -4 1", "root 0 of -1 1 -2 1"
FILLED = {
    ONE: ((1, 1),), TWO: ((1, 2),), HALF: ((2, 1),), TALL: ((2, 3),), WIDE: ((1, 4), (2, 1)), SLIM: ((1, 4), (2, 1)),
    CUBIC: ((1, 2), (4, 1), (1, 2)),
}
BARRED = (
    "root 1 of -2 0 1", "root 1 of -1 -1 1", "root 0 of -2 0 0 1", "root 2 of 1 -3 0 1", "root 3 of 1 0 -10 0 1",
    "root 0 of -2 0 0 0 0 1", "root 1 of -1 1000 3",
)
TURNED = ((TWO, HALF), (TALL, "root 0 of -2 3"), (WIDE, "root 0 of 1 -4 2"), (SLIM, "root 1 of 1 -4 2"))

# Trees that fill the square, with a shape for which they do.
TREES = (
    (ONE, "l"), (ONE, "s"), (TWO, ("(", "l", "l")), (TWO, ("[", "s", "s")), (HALF, ("[", "l", "l")),
    (TALL, ("(", ("[", "l", "l"), "l")), (TALL, ("[", ("(", "s", "s"), "s")), (CUBIC, ("[", ("(", "l", "s"), "s")),
    (WIDE, ("[", ("(", "l", "l", "l", "l"), ("(", "s", "s"))), (WIDE, ("(", ("[", *"ssss"), ("[", *"ll"))),
    (SLIM, ("[", ("(", "l", "l", "l", "l"), ("(", "s", "s"))),
    ("root 0 of -12 1", ("(", *"llllllllllll")), ("root 0 of -12 1", ("(", ("(", *"lllll"), ("(", *"lllllll"))),
    ("root 0 of -4 1", ("[", ("[", "s", ("[", "s", "s")), "s")),
    (TWO, ("[", ("(", ("[", "s", "s"), ("[", "s", "s")), ("(", "l", "l", "l", "l"))),
)

# What is no text of a shape, and what is no tree.
WRONG_TEXTS = ODD_VALUES + (
    "root 1 of -1 1", "root 0 of -2 2", "root 0 of 1 -1", "root 0 of -1  1", "root 00 of -1 1", "root 0 of -1 1 ",
    "root 0 of -1 0 1", "root 0 of 1 0 1", ("root 0 of -1 1",), Shape(ONE), "root 0 of -1001 1",
)
WRONG_TREES = ODD_VALUES + ("(l)", "[]", "l l", "(l l]", "(l  l)", " l", "l ", "L", ("l",), "[" + "l " * 12 + "l]")


def mended(pane, shape, at, by):
    """A pane with one of its numbers, or its way, changed."""
    parts = list(pane)
    parts[at] = {"lying": "standing", "standing": "lying"}[pane[3]] if at == 3 else total(shape, pane[at], by)
    return tuple(parts)


def told_trees(text, tree):
    """The cutting by a tree that fills the square, laid in a way of the tests."""
    ruler = Ruler(text)
    assert tree_ratio(ruler, tree) == ruler.unit
    return tuple(laid(ruler, tree, ruler.nought, ruler.nought, ruler.unit, ruler.unit))


def laid(ruler, tree, x, y, width, height):
    """The panes of a tree in a rectangle into which it fits."""
    if isinstance(tree, str):
        side, way = (height, "lying") if tree == "l" else (width, "standing")
        assert ruler.size(side, way) == (width, height)
        return [(*(ruler.number(part) for part in (x, y, side)), way)]
    found = []
    for part in tree[1:]:
        if tree[0] == "[":
            wide = ruler.mul(tree_ratio(ruler, part), height)
            found += laid(ruler, part, x, y, wide, height)
            x = ruler.add(x, wide)
        else:
            high = ruler.mul(ruler.inverse(tree_ratio(ruler, part)), width)
            found += laid(ruler, part, x, y, width, high)
            y = ruler.add(y, high)
    return found


def wrong_papers(shape, paper):
    """Papers that differ from a right one by one pane: left out, twice, moved, greater, smaller or turned."""
    little, unit = number_of(shape, (1, 10 ** 40)), number_of(shape, (1, 1))
    back = opposite(shape, little)
    for index, pane in enumerate(paper):
        ahead, behind = paper[:index], paper[index + 1:]
        yield ahead + behind
        yield ahead + (pane, pane) + behind
        yield paper + (pane,)
        for at in range(3):
            for by in (little, back, unit):
                yield ahead + (mended(pane, shape, at, by),) + behind
        if shape.text != ONE:
            yield ahead + (mended(pane, shape, 3, None),) + behind


def odd_papers(paper):
    """What is like a right paper, but of other kinds of values."""
    yield list(paper)
    yield (paper,)
    yield paper + (None,)
    yield (None,) + paper
    for index, pane in enumerate(paper):
        ahead, behind = paper[:index], paper[index + 1:]
        for at in range(4):
            for value in (None, "x", 1, True, [], (), (1,), pane[at][:-1] if at < 3 else "askew"):
                yield ahead + ((*pane[:at], value, *pane[at + 1:]),) + behind
            if at < 3:
                yield ahead + ((*pane[:at], list(pane[at]), *pane[at + 1:]),) + behind
                yield ahead + ((*pane[:at], tuple(2 * part for part in pane[at]), *pane[at + 1:]),) + behind
                yield ahead + ((*pane[:at], tuple(-part for part in pane[at]), *pane[at + 1:]),) + behind
                if set(pane[at]) <= {0, 1}:
                    yield ahead + ((*pane[:at], tuple(bool(part) for part in pane[at]), *pane[at + 1:]),) + behind
        yield ahead + (list(pane),) + behind
        yield ahead + (pane[:3],) + behind
        yield ahead + (pane + (1,),) + behind


class Checker(unittest.TestCase):
    def assert_accepted(self, claim, paper):
        self.assertIs(accepts(claim, paper), True)
        self.assertIs(accepts(paper=paper, claim=claim), True)

    def assert_refused(self, claim, paper):
        self.assertIs(accepts(claim, paper), False, (claim, paper))

    def assert_paper_is_none_only(self, claim):
        self.assert_accepted(claim, None)
        for value in ODD_VALUES + (ONE, Shape(ONE), ((1, 1),), (NotImplemented,), Bench(Shape(ONE)), Desk()):
            if value is not None:
                self.assert_refused(claim, value)
        self.assert_refused(claim, cut_square(Shape(WIDE)))


class Fills(Checker):
    def test_right_papers(self):
        for text in FILLED:
            self.assert_accepted(("fills", text), cut_square(Shape(text)))
        for text, tree in TREES:
            self.assert_accepted(("fills", text), told_trees(text, tree))
        third = tuple((*(fraction(Fraction(*part[::-1]) / 3) for part in row[:3]), row[3]) for row in WHEEL)
        self.assert_accepted(("fills", TWO), third)
        self.assert_refused(("fills", TWO), WHEEL)

    def test_any_order_of_panes_is_right(self):
        for text in (TALL, WIDE, SLIM):
            rows = list(cut_square(Shape(text)))
            for seed in range(5):
                Random(seed).shuffle(rows)
                self.assert_accepted(("fills", text), tuple(rows))

    def test_wrong_papers(self):
        for text in FILLED:
            shape = Shape(text)
            paper = cut_square(shape)[:40]
            for wrong in wrong_papers(shape, paper):
                self.assert_refused(("fills", text), wrong)
            for wrong in odd_papers(paper):
                self.assert_refused(("fills", text), wrong)

    def test_papers_of_other_squares(self):
        for text in (TALL, WIDE):
            shape = Shape(text)
            for factor in ((1, 2), (2, 1), (10 ** 20, 10 ** 20 + 1)):
                by = number_of(shape, factor)
                wrong = [(*(product(shape, part, by) for part in row[:3]), row[3]) for row in cut_square(shape)]
                self.assert_refused(("fills", text), tuple(wrong))
            by = number_of(shape, (1, 10 ** 9))
            for at in (0, 1):
                moved = tuple(mended(row, shape, at, by) for row in cut_square(shape))
                self.assert_refused(("fills", text), moved)
            for other in FILLED:
                if other not in (text, SLIM):
                    self.assert_refused(("fills", text), cut_square(Shape(other)))

    def test_roots_of_the_same_equation_are_told_apart(self):
        self.assert_refused(("fills", SLIM), ((*cut_square(Shape(WIDE))[:1],) * 6))
        # The same row of numbers may fill for the one root and have a side below 0 for the other one.
        side = (2, 2, -1)
        for text in (WIDE, SLIM):
            ruler = Ruler(text)
            self.assertEqual(ruler.sign(ruler.parts(side)) > 0, text == SLIM)
            self.assert_refused(("fills", text), (((1, 0, 0), (1, 0, 0), side, "lying"),))

    def test_no_papers(self):
        for text in tuple(FILLED) + BARRED:
            for value in ODD_VALUES + (Shape(text), text, "lying", Bench(Shape(ONE)), Anything()):
                self.assert_refused(("fills", text), value)

    def test_false_claims(self):
        for text in BARRED:
            shape = Shape(text)
            unit, nought = number_of(shape, (1, 1)), number_of(shape, (0, 1))
            for way in ("lying", "standing"):
                self.assert_refused(("fills", text), ((nought, nought, unit, way),))
        full = panes((0, 0, 1, "lying"))
        self.assert_accepted(("fills", ONE), full)
        self.assert_refused(("fills", TWO), full)

    def test_many_panes(self):
        for text, across, upward in ((ONE, 23, 23), (TWO, 20, 40), ("root 0 of -1 2", 52, 26)):
            shape, side = Shape(text), Fraction(1, upward)
            long = Fraction(1, across)
            paper = panes(*[(x * long, y * side, side, "lying") for x in range(across) for y in range(upward)])
            self.assertGreater(len(paper), MOST_PANES)
            self.assert_accepted(("fills", shape.text), paper)
            self.assert_refused(("fills", shape.text), paper[:-1])
            self.assert_refused(("fills", shape.text), paper[1:])
            self.assert_refused(("fills", shape.text), paper + paper[-1:])
            self.assert_refused(("fills", shape.text), paper[:-1] + paper[:1])
        paper = parted(WIDE, 12)
        self.assertEqual(len(paper), 864)
        self.assert_accepted(("fills", WIDE), paper)
        for wrong in (paper[:700] + paper[701:], paper[:-1] + (mended(paper[-1], Shape(WIDE), 0, (10 ** 50, 1, 0)),)):
            self.assert_refused(("fills", WIDE), wrong)


def parted(text, many):
    """The told cutting with each pane cut into many by many ones."""
    ruler, found = Ruler(text), []
    for x, y, side, way in cut_square(ruler.shape):
        part = ruler.scaled(Fraction(1, many), ruler.parts(side))
        wide, high = ruler.size(part, way)
        lefts = [ruler.add(ruler.parts(x), ruler.scaled(at, wide)) for at in range(many)]
        lows = [ruler.add(ruler.parts(y), ruler.scaled(at, high)) for at in range(many)]
        found += [(*(ruler.number(value) for value in (left, low, part)), way) for left in lefts for low in lows]
    return tuple(found)


class Never(Checker):
    def test_right_papers(self):
        for text in BARRED:
            self.assert_paper_is_none_only(("never", text))

    def test_false_claims(self):
        for text in FILLED:
            for paper in (None, (), cut_square(Shape(text)), False):
                self.assert_refused(("never", text), paper)


class Written(Checker):
    def test_right_papers(self):
        for text, fractions in FILLED.items():
            self.assert_paper_is_none_only(("written", text, fractions))
        for degree in range(1, 6):
            for text, fractions in told_shapes(degree, 4, 11):
                self.assert_accepted(("written", text, fractions), None)

    def test_false_claims(self):
        for degree in range(1, 6):
            for text, fractions in told_shapes(degree, 3, 12):
                wrong = [fractions[:-1], fractions[1:], fractions + fractions[:1], fractions + ((1, 1),), fractions * 2]
                for at, (top, bottom) in enumerate(fractions):
                    for pair in ((top * 7 + bottom, bottom * 7), (bottom * 2, top * 2), (-top, bottom), (0, 1)):
                        changed = fraction(Fraction(*pair))[::-1]
                        wrong.append((*fractions[:at], changed, *fractions[at + 1:]))
                wrong.append(fractions[::-1])
                for given in wrong:
                    if given != fractions:
                        self.assert_refused(("written", text, given), None)
        for text in BARRED:
            for given in ((), ((1, 1),), ((1, 4), (2, 1)), None):
                self.assert_refused(("written", text, given), None)

    def test_the_same_worth_by_more_fractions_is_not_it(self):
        """By 1 = 1 / 2 + 1 / 2 the shape 3 / 2 has other fractions, but it is not written out by them."""
        self.assert_refused(("written", TALL, ((1, 3), (4, 3))), None)

    def test_what_are_no_fractions(self):
        for value in ODD_VALUES:
            self.assert_refused(("written", WIDE, value), None)
            self.assert_refused(("written", WIDE, (value, (2, 1))), None)
            self.assert_refused(("written", WIDE, ((1, 4), value)), None)
            self.assert_refused(("written", ONE, ((value, 1),)), None)
            self.assert_refused(("written", ONE, ((1, value),)), None)
        for value in (
            [(1, 4), (2, 1)], ([1, 4], [2, 1]), ((True, 4), (2, True)), ((2, 8), (2, 1)), ((-1, -4), (2, 1)),
            ((1, 4), (2,)), ((1, 4), (2, 1, 1)), (((1, 4), (2, 1)),), ((1, 4), (2, 1), ()), "((1, 4), (2, 1))",
        ):
            self.assert_refused(("written", WIDE, value), None)


class Trees(Checker):
    def test_right_papers(self):
        for text, tree in TREES:
            self.assert_accepted(("tree", text, tree_text(tree)), told_trees(text, tree))

    def test_wrong_papers(self):
        for text, tree in TREES:
            claim, paper, shape = ("tree", text, tree_text(tree)), told_trees(text, tree), Shape(text)
            for wrong in wrong_papers(shape, paper):
                self.assert_refused(claim, wrong)
            for wrong in odd_papers(paper):
                self.assert_refused(claim, wrong)
            for value in ODD_VALUES + (shape, claim):
                self.assert_refused(claim, value)
            if shape.text == ONE:
                turned = "s" if tree == "l" else "l"
                self.assert_refused(("tree", text, turned), paper)

    def test_panes_in_another_order(self):
        for text, tree in TREES:
            claim, paper = ("tree", text, tree_text(tree)), told_trees(text, tree)
            others = [paper[::-1], paper[1:] + paper[:1]]
            others += [(*paper[:at], paper[at + 1], paper[at], *paper[at + 2:]) for at in range(len(paper) - 1)]
            for other in set(others) - {paper}:
                self.assert_accepted(("fills", text), other)
                self.assert_refused(claim, other)

    def test_papers_of_trees_that_are_alike(self):
        """The same panes from the right, or from above, are a paper of another tree."""
        for text, one, other in (
            (WIDE, ("[", ("(", *"llll"), ("(", *"ss")), ("[", ("(", *"ss"), ("(", *"llll"))),
            (TALL, ("(", ("[", "l", "l"), "l"), ("(", "l", ("[", "l", "l"))),
            (TALL, ("[", ("(", "s", "s"), "s"), ("[", "s", ("(", "s", "s"))),
            (CUBIC, ("[", ("(", "l", "s"), "s"), ("[", ("(", "s", "l"), "s")),
            (CUBIC, ("(", ("[", "l", "s"), "l"), ("(", ("[", "s", "l"), "l")),
        ):
            papers = [told_trees(text, tree) for tree in (one, other)]
            for tree, right, wrong in ((one, *papers), (other, *papers[::-1])):
                claim = ("tree", text, tree_text(tree))
                self.assert_accepted(claim, right)
                self.assert_refused(claim, wrong)

    def test_papers_of_other_trees(self):
        for text, tree in TREES:
            for paper in [told_trees(*other) for other in TREES]:
                right = told_trees(text, tree) == paper
                self.assertIs(accepts(("tree", text, tree_text(tree)), paper), right)

    def test_brackets_in_ones_of_their_kind(self):
        paper = told_trees("root 0 of -4 1", ("[", *"ssss"))
        for tree in ("[s s s s]", "[[s s] [s s]]", "[[[s s] s] s]", "[s [s [s s]]]"):
            self.assert_accepted(("tree", "root 0 of -4 1", tree), paper)
        for tree in ("(s s s s)", "[s s s]", "[s s s s s]", "[[s s] (s s)]", "[l l l l]"):
            self.assert_refused(("tree", "root 0 of -4 1", tree), paper)

    def test_false_claims(self):
        for text, tree, rows in (
            (TWO, "[l l]", ((0, 0, Fraction(1, 2), "lying"), (0, Fraction(1, 2), Fraction(1, 2), "lying"))),
            (TWO, "l", ((0, 0, 1, "lying"),)), (TWO, "s", ((0, 0, Fraction(1, 2), "standing"),)),
            (TWO, "[l s]", ((0, 0, 1, "lying"), (2, 0, Fraction(1, 2), "standing"))),
            (HALF, "[s s]", ((0, 0, 1, "standing"), (0, Fraction(1, 2), 1, "standing"))),
            (HALF, "[(l l) l]", ((0, 0, 1, "lying"), (Fraction(1, 2), 0, 1, "lying"))),
        ):
            self.assert_refused(("tree", text, tree), panes(*rows))
            self.assert_refused(("tree", text, tree), None)

    def test_what_are_no_trees(self):
        paper = told_trees(ONE, "l")
        for value in WRONG_TREES:
            self.assert_refused(("tree", ONE, value), paper)
            self.assert_refused(("tree", ONE, value), None)
        rows = panes(*[(Fraction(at, 13), 0, 1, "lying") for at in range(13)])
        self.assert_accepted(("fills", "root 0 of -1 13"), rows)
        self.assert_refused(("tree", "root 0 of -1 13", "[" + "l " * 12 + "l]"), rows)


class Alike(Checker):
    def test_right_papers(self):
        for pair in TURNED:
            for one, other in (pair, pair[::-1], pair[:1] * 2, pair[1:] * 2):
                self.assert_accepted(("alike", one, other), None)
        self.assert_paper_is_none_only(("alike", *TURNED[2]))
        for text, _, _ in STRETCHES:
            self.assert_accepted(("alike", text, text), None)

    def test_false_claims(self):
        texts = [text for pair in TURNED for text in pair] + list(BARRED)
        pairs = {frozenset(pair) for pair in TURNED}
        for one in texts:
            for other in texts:
                right = one == other or frozenset((one, other)) in pairs
                self.assertIs(accepts(("alike", one, other), None), right)

    def test_wrong_texts(self):
        for value in WRONG_TEXTS:
            self.assert_refused(("alike", value, ONE), None)
            self.assert_refused(("alike", ONE, value), None)
            self.assert_refused(("alike", value, value), None)


class NoClaims(Checker):
    def test_values_of_all_kinds(self):
        papers = (None, (), cut_square(Shape(ONE)), True)
        for value in ODD_VALUES + (Shape(ONE), Desk(), Bench(Shape(ONE)), ONE, ("fills", ONE, None), ONE.split(" ")):
            for paper in papers:
                self.assert_refused(value, paper)

    def test_each_odd_value_as_claim_and_as_paper(self):
        for claim in ODD_VALUES:
            for paper in ODD_VALUES:
                self.assert_refused(claim, paper)

    def test_words(self):
        square, never = cut_square(Shape(ONE)), BARRED[0]
        for word in ODD_VALUES + ("Fills", "fill", "fills ", ("fills",), b"fills", "few", "unalike", "claim"):
            self.assert_refused((word, ONE), square)
            self.assert_refused((word, never), None)
            self.assert_refused((word, ONE, ((1, 1),)), None)
            self.assert_refused((word, ONE, "l"), square)
            self.assert_refused((word, ONE, ONE), None)
        for claim, paper in (
            (("written", ONE), None), (("tree", ONE), square), (("alike", ONE), None), (("written", never), None),
            (("fills", ONE, ONE), square), (("fills", ONE, "l"), square), (("never", never, never), None),
            (("never", never, None), None), (("fills", ONE, None), square), (("alike", ONE, "l"), None),
            (("tree", ONE, ONE), square), (("written", ONE, "l"), None), (("tree", ONE, ((1, 1),)), square),
            (("tree", ONE, "l"), None), (("written", ONE, ((1, 1),)), square), (("alike", ONE, ONE), square),
        ):
            self.assert_refused(claim, paper)

    def test_what_is_only_equal_to_what_is_right(self):
        square, odd = cut_square(Shape(ONE)), Anything()
        never, fractions = BARRED[0], ("written", ONE, ((1, 1),))
        for claim, paper in (
            (odd, None), (odd, square), ((odd, ONE), square), ((odd, ONE), None), ((odd, never), None),
            (("fills", odd), square), (("fills", ONE), odd), (("fills", ONE), (odd,)), (("never", never), odd),
            (("never", odd), None), ((odd, ONE, ((1, 1),)), None), ((odd, ONE, "l"), square), ((odd, ONE, ONE), None),
            (("written", ONE, odd), None), (("written", ONE, (odd,)), None), (("written", ONE, ((1, odd),)), None),
            (fractions, odd), (("tree", ONE, odd), square), (("tree", ONE, "l"), odd), (("tree", odd, "l"), square),
            (("tree", ONE, "l"), (odd,)), (("alike", ONE, odd), None), (("alike", odd, ONE), None),
            (("alike", ONE, ONE), odd), (("fills", ONE), ((*square[0][:3], odd),)),
            (("tree", ONE, "l"), ((*square[0][:3], odd),)), (("fills", ONE), ((odd, *square[0][1:]),)),
            (("tree", ONE, "l"), ((odd, *square[0][1:]),)), (("tree", ONE, "l"), (((1, odd), *square[0][1:]),)),
        ):
            self.assert_refused(claim, paper)

    def test_lengths_and_rows(self):
        square = cut_square(Shape(ONE))
        for claim, paper in (
            (("fills", ONE), square), (("never", BARRED[0]), None), (("written", ONE, ((1, 1),)), None),
            (("tree", ONE, tree_text("l" if square[0][3] == "lying" else "s")), square), (("alike", ONE, ONE), None),
        ):
            self.assert_accepted(claim, paper)
            for wrong in (list(claim), claim[:-1], claim[:1], claim + (None,), claim + claim[-1:], (claim,), claim[1:]):
                self.assert_refused(wrong, paper)
            self.assert_refused((*claim[:1], [claim[1]], *claim[2:]), paper)

    def test_texts(self):
        square = cut_square(Shape(ONE))
        for value in WRONG_TEXTS:
            self.assert_refused(("fills", value), square)
            self.assert_refused(("never", value), None)
            self.assert_refused(("written", value, ((1, 1),)), None)
            self.assert_refused(("tree", value, "l"), square)

    def test_what_is_passed_stays(self):
        claim, paper = ["fills", ONE], [list(cut_square(Shape(ONE))[0])]
        self.assert_refused(claim, paper)
        self.assertEqual((claim, paper), (["fills", ONE], [list(cut_square(Shape(ONE))[0])]))


if __name__ == "__main__":
    unittest.main()

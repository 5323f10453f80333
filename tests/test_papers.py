import unittest

from known import ODD_VALUES, STRETCHES, Raises, Ruler, all_trees, some_trees, told_shapes, tree_ratio, tree_text
from likepanes.checker import accepts
from likepanes.cutting import cut_square, panes_in
from likepanes.errors import InvalidTree, NotAShape, TooMany
from likepanes.papers import paper_of_likeness, paper_of_shape, paper_of_tree, paper_of_writing
from likepanes.shapes import Shape, alike
from likepanes.trees import laid
from likepanes.writing import fills, written

ONE, TALL, WIDE, ROOT_TWO = "root 0 of -1 1", "root 0 of -3 2", "root 1 of 2 -4 1", "root 1 of -2 0 1"
TEXTS = [text for text, _, _ in STRETCHES] + [text for degree in range(1, 6) for text, _ in told_shapes(degree, 5, 2)]


class Papers(Raises, unittest.TestCase):
    def assert_paper(self, pair, claim):
        self.assertIs(type(pair), tuple)
        self.assertEqual((len(pair), pair[0], type(pair[0])), (2, claim, tuple))
        self.assertIs(accepts(*pair), True)

    def test_of_shapes(self):
        many = {"fills": 0, "never": 0}
        for text in TEXTS:
            shape = Shape(text)
            if fills(shape) and panes_in(shape) > 500:
                self.assert_raised(TooMany, {"limit": 500}, paper_of_shape, shape)
                continue
            word = "fills" if fills(shape) else "never"
            pair = paper_of_shape(shape)
            self.assert_paper(pair, (word, text))
            self.assertEqual(pair[1], cut_square(shape))
            self.assertEqual(pair, paper_of_shape(shape=shape))
            many[word] += 1
        self.assertGreater(min(many.values()), 5)

    def test_the_greatest_number_of_panes(self):
        for many in (499, 500):
            pair = paper_of_shape(Shape(f"root 0 of -{many} 1"))
            self.assert_paper(pair, ("fills", f"root 0 of -{many} 1"))
            self.assertEqual(len(pair[1]), many)
        for text in ("root 0 of -501 1", "root 0 of -1 501", "root 0 of -22 23"):
            self.assert_raised(TooMany, {"limit": 500}, paper_of_shape, Shape(text))

    def test_of_writing(self):
        many = 0
        for text in TEXTS:
            shape = Shape(text)
            pair = paper_of_writing(shape)
            self.assertEqual(pair, paper_of_writing(shape=shape))
            if written(shape) is None:
                self.assertIsNone(pair)
            else:
                self.assert_paper(pair, ("written", text, written(shape)))
                self.assertIsNone(pair[1])
                many += 1
        self.assertTrue(5 < many < len(TEXTS))
        text = "root 0 of -999 1000"
        self.assert_paper(paper_of_writing(Shape(text)), ("written", text, ((1000, 999),)))

    def test_of_trees(self):
        seen = set()
        for text in (ONE, TALL, WIDE, ROOT_TWO, "root 0 of -2 1", "root 0 of -1 1 -2 1", "root 1 of 1 -3 1"):
            ruler, shape = Ruler(text), Shape(text)
            trees = [tree for panes in (1, 2, 3, 4) for tree in all_trees(panes).values()] + some_trees(20, 12, 8)
            for tree in trees + [("[", ("(", *"llll"), ("(", *"ss")), ("[", ("(", *"lll"), ("(", *"sss"))]:
                told = tree_text(tree)
                pair = paper_of_tree(shape, told)
                if tree_ratio(ruler, tree) == ruler.unit:
                    self.assert_paper(pair, ("tree", text, told))
                    self.assertEqual(pair[1], laid(shape, told))
                    self.assertEqual(pair, paper_of_tree(tree=told, shape=shape))
                    seen.add((text, True))
                else:
                    self.assertIsNone(pair)
                    seen.add((text, False))
        self.assertEqual(len(seen), 13)

    def test_trees_are_told_as_they_are_passed(self):
        for tree in ("[s [s [s s]]]", "[[s s] [s s]]", "[s s s s]", "(l (l l) l)"):
            self.assert_paper(paper_of_tree(Shape("root 0 of -4 1"), tree), ("tree", "root 0 of -4 1", tree))

    def test_of_likeness(self):
        some = [Shape(text) for text in TEXTS[:25] + ["root 0 of -2 3", "root 0 of 1 -4 2", "root 1 of -1 0 2"]]
        many = 0
        for one in some:
            for other in some:
                pair = paper_of_likeness(one, other)
                if alike(one, other):
                    self.assert_paper(pair, ("alike", one.text, other.text))
                    self.assertIsNone(pair[1])
                    self.assertEqual(pair, paper_of_likeness(other=other, one=one))
                    many += 1
                else:
                    self.assertIsNone(pair)
        self.assertGreater(many, len(some))

    def test_not_a_shape(self):
        for value in ODD_VALUES + (WIDE, (WIDE,), cut_square(Shape(WIDE))):
            wrong = {"given": value}
            self.assert_raised(NotAShape, wrong, paper_of_shape, value)
            self.assert_raised(NotAShape, wrong, paper_of_writing, value)
            self.assert_raised(NotAShape, wrong, paper_of_tree, value, "l")
            self.assert_raised(NotAShape, wrong, paper_of_tree, value, None)
            self.assert_raised(NotAShape, wrong, paper_of_likeness, value, Shape(ONE))
            self.assert_raised(NotAShape, wrong, paper_of_likeness, Shape(ONE), value)
            self.assert_raised(NotAShape, wrong, paper_of_likeness, value, "other")

    def test_no_trees(self):
        for value in ODD_VALUES + ("(l)", "l l", "[l", "[l  l]", "[" + "l " * 12 + "l]", ("l",), Shape(ONE)):
            for text in (ONE, WIDE, ROOT_TWO):
                self.assert_raised(InvalidTree, {"given": value}, paper_of_tree, Shape(text), value)


if __name__ == "__main__":
    unittest.main()

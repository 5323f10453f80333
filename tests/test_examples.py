"""The examples of the document, as they stand there, and those of README.md."""

import doctest
import unittest
from pathlib import Path

from likepanes.benches import Bench
from likepanes.checker import accepts
from likepanes.cutting import clash, cut_square, is_cutting, panes_in
from likepanes.few import fewest, fillings, shapes_with
from likepanes.numbers import floor_of, number_of, opposite, product, quotient, root, sign, total
from likepanes.papers import paper_of_likeness, paper_of_shape, paper_of_tree, paper_of_writing
from likepanes.shapes import Shape, alike, less
from likepanes.trees import laid, panes_of, plain, ratio, shapes_of, tree_of
from likepanes.writing import fills, steps, worth, written


class Examples(unittest.TestCase):
    def setUp(self):
        self.wide = Shape.of((2, -4, 1), (3, 1), (4, 1))
        self.slim, self.two = Shape("root 0 of 2 -4 1"), Shape("root 0 of -3 2")
        self.root_two = Shape.of((-2, 0, 1), (1, 1), (2, 1))

    def test_shapes(self):
        wide, two, slim, root_two = self.wide, self.two, self.slim, self.root_two
        self.assertEqual(
            [
                wide.text, wide.rank, wide.degree, Shape.of((4, -10, 6, -1), (3, 1), (4, 1)) == wide, two.equation,
                less(slim, wide), alike(wide, slim), alike(two, Shape("root 0 of -2 3")), root_two.text,
            ],
            ["root 1 of 2 -4 1", 1, 2, True, (-3, 2), True, False, True, "root 1 of -2 0 1"],
        )

    def test_numbers(self):
        wide, two = self.wide, self.two
        r = root(wide)
        self.assertEqual(
            [
                r, product(wide, r, r), quotient(wide, (1, 1, 0), r), total(wide, r, number_of(wide, (-7, 2))),
                sign(wide, (2, -7, 2)), floor_of(wide, r, 10 ** 6), floor_of(wide, opposite(wide, r), 10), root(two),
            ],
            [(1, 0, 1), (1, -2, 4), (2, 4, -1), (2, -7, 2), -1, 3414213, -35, (2, 3)],
        )

    def test_writing(self):
        wide, two, slim, root_two = self.wide, self.two, self.slim, self.root_two
        cubic = Shape.of((-1, 2, -2, 1), (1, 2), (3, 2))
        self.assertEqual(
            [
                written(wide), fills(wide), written(root_two), steps(root_two), written(two), fills(slim),
                worth(wide, ((1, 4), (2, 1))), cubic.text,
            ],
            [((1, 4), (2, 1)), True, None, (), ((2, 3),), True, (1, 1, 0), "root 0 of -1 1"],
        )

    def test_cutting(self):
        wide, two, root_two = self.wide, self.two, self.root_two
        r, unit = root(wide), number_of(wide, (1, 1))
        panes = cut_square(wide)
        self.assertEqual(
            [
                panes_in(wide), is_cutting(wide, panes, unit, unit), clash(wide, panes + panes[:1]) is None,
                is_cutting(wide, panes[1:], unit, unit), cut_square(root_two),
                is_cutting(wide, (((1, 0, 0), (1, 0, 0), (1, 1, 0), "lying"),), r, unit), panes_in(two),
            ],
            [6, True, False, False, None, True, 6],
        )

    def test_trees(self):
        wide, two = self.wide, self.two
        self.assertEqual(
            [
                panes_of("[(l l) s]"), plain("[s [l (s l)]]"), ratio(wide, "[l s]"), ratio(wide, "[(l l l l) (s s)]"),
                laid(two, "[l s]"), shapes_of("[(l l) s]"), shapes_of("[l l]"), shapes_of("[l s]"),
            ],
            [
                3, "[(l s) l s]", (2, 4, 1), (1, 1, 0),
                (((1, 0), (1, 0), (1, 1), "lying"), ((2, 3), (1, 0), (3, 2), "standing")), (), ("root 0 of -1 2",), (),
            ],
        )
        self.assertEqual(
            [
                tree_of(two, laid(two, "[(l l) l]"), (4, 9), (1, 1)),
                tree_of(two, laid(two, "([l l] [l l])"), (2, 3), (1, 1)),
            ],
            ["[(l l) l]", "[(l l) (l l)]"],
        )

    def test_few(self):
        two, root_two, double = self.two, self.root_two, Shape("root 0 of -2 1")
        self.assertEqual(
            [
                shapes_with(1), shapes_with(2), shapes_with(3), fewest(two), fewest(double), fewest(root_two),
                fillings(double, 2),
            ],
            [
                ("root 0 of -1 1",), ("root 0 of -2 1",), ("root 0 of -3 2", "root 0 of -1 1 -2 1", "root 0 of -3 1"),
                3, 2, None, ("(l l)", "[s s]"),
            ],
        )

    def test_benches(self):
        bench = Bench(self.two)
        done = [
            bench.put((1, 0), (1, 0), (3, 2), "lying"), bench.left, bench.put((1, 0), (3, 2), (9, 2), "standing"),
            bench.panes[1][2], bench.take(0), bench.undo(), bench.changes,
        ]
        self.assertEqual(
            [done, bench.left, bench.is_full], [[None, (3, 1), None, (9, 2), None, None, 2], (27, 7), False],
        )

    def test_papers(self):
        wide, slim, root_two = self.wide, self.slim, self.root_two
        papers = [
            paper_of_shape(wide), paper_of_shape(root_two), paper_of_writing(wide),
            paper_of_tree(wide, "[(l l l l) (s s)]"), paper_of_likeness(wide, wide),
        ]
        self.assertEqual(
            [papers[0][0], papers[1], papers[2][0][2], paper_of_tree(wide, "[l s]"), paper_of_likeness(wide, slim)],
            [("fills", "root 1 of 2 -4 1"), (("never", "root 1 of -2 0 1"), None), ((1, 4), (2, 1)), None, None],
        )
        self.assertEqual(
            [
                accepts(papers[0][0], papers[0][1]), accepts(papers[1][0], None), accepts(papers[2][0], None),
                accepts(papers[3][0], papers[3][1]), accepts(papers[4][0], None), accepts(papers[0][0], None),
            ],
            [True, True, True, True, True, False],
        )

    def test_readme(self):
        readme = Path(__file__).resolve().parent.parent / "README.md"
        failed, many = doctest.testfile(str(readme), module_relative=False)
        self.assertEqual(failed, 0)
        self.assertGreater(many, 5)


if __name__ == "__main__":
    unittest.main()

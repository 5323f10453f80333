"""The examples of the document, as they stand there, and those of README.md."""

import doctest
import unittest
from pathlib import Path

from likepanes.numbers import floor_of, number_of, opposite, product, quotient, root, sign, total
from likepanes.shapes import Shape, alike, less


class Examples(unittest.TestCase):
    def setUp(self):
        self.wide = Shape.of((2, -4, 1), (3, 1), (4, 1))
        self.two = Shape("root 0 of -3 2")

    def test_shapes(self):
        wide, two = self.wide, self.two
        slim, root_two = Shape("root 0 of 2 -4 1"), Shape.of((-2, 0, 1), (1, 1), (2, 1))
        self.assertEqual(
            [
                wide.text, wide.rank, wide.degree, Shape.of((4, -10, 6, -1), (3, 1), (4, 1)) == wide, two.equation,
                less(slim, wide), alike(wide, slim), alike(two, Shape("root 0 of -2 3")), root_two.text,
            ],
            ["root 1 of 2 -4 1", 1, 2, True, (-3, 2), True, False, True, "root 1 of -2 0 1"],
        )

    def test_numbers(self):
        wide, two = self.wide, self.two
        r = root(wide)
        self.assertEqual(
            [
                r, product(wide, r, r), quotient(wide, (1, 1, 0), r), total(wide, r, number_of(wide, (-7, 2))),
                sign(wide, (2, -7, 2)), floor_of(wide, r, 10 ** 6), floor_of(wide, opposite(wide, r), 10), root(two),
            ],
            [(1, 0, 1), (1, -2, 4), (2, 4, -1), (2, -7, 2), -1, 3414213, -35, (2, 3)],
        )

    def test_readme(self):
        readme = Path(__file__).resolve().parent.parent / "README.md"
        failed, many = doctest.testfile(str(readme), module_relative=False)
        self.assertEqual(failed, 0)
        self.assertGreater(many, 5)


if __name__ == "__main__":
    unittest.main()

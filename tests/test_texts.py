import unittest
from itertools import product

from known import ODD_VALUES, STRETCHES
from likepanes.errors import InvalidText
from likepanes.shapes import Shape

RIGHT = (
    ("root 0 of -1 1", 0, (-1, 1)),
    ("root 0 of -1000 1", 0, (-1000, 1)),
    ("root 0 of -1 1000", 0, (-1, 1000)),
    ("root 0 of -999 1000", 0, (-999, 1000)),
    ("root 0 of 2 -4 1", 0, (2, -4, 1)),
    ("root 1 of 2 -4 1", 1, (2, -4, 1)),
    ("root 1 of -2 0 1", 1, (-2, 0, 1)),
    ("root 1 of -1000 999 1000", 1, (-1000, 999, 1000)),
    ("root 0 of 1 -1000 1", 0, (1, -1000, 1)),
    ("root 0 of -2 0 0 1", 0, (-2, 0, 0, 1)),
    ("root 1 of 1 -3 0 1", 1, (1, -3, 0, 1)),
    ("root 2 of 1 -3 0 1", 2, (1, -3, 0, 1)),
    ("root 2 of 1 0 -10 0 1", 2, (1, 0, -10, 0, 1)),
    ("root 3 of 1 0 -10 0 1", 3, (1, 0, -10, 0, 1)),
    ("root 0 of -2 0 0 0 0 1", 0, (-2, 0, 0, 0, 0, 1)),
    ("root 2 of 1 -5 0 0 0 1", 2, (1, -5, 0, 0, 0, 1)),
    ("root 0 of -1 -1 -1 -1 -1 2", 0, (-1, -1, -1, -1, -1, 2)),
    ("root 4 of -1 3 3 -4 -1 1", 4, (-1, 3, 3, -4, -1, 1)),
)

# All roots of this least equation are real: -1.68.., -0.83.., 0.28.., 1.30.., 1.91...
FIVE = "-1 3 3 -4 -1 1"

WRONG = (
    # words
    "", " ", "root", "root 0", "root 0 of", "root of -1 1", "0 of -1 1", "-1 1", "root 0 -1 1", "root 0 of of -1 1",
    "root 0 of -1", "root 0 of 1", "of 0 root -1 1", "Root 0 of -1 1", "ROOT 0 OF -1 1", "root 0 Of -1 1",
    "roots 0 of -1 1", "root 0 off -1 1", "root 0 of -1 1 of", "root 0 0 of -1 1", "root x of -1 1", "root 0 of x 1",
    "root 0 of -1 x", "root 0 of (-1, 1)", "root 0 of -1, 1", "root 0 of -1,1", "root  of -1 1",
    # spaces
    " root 0 of -1 1", "root 0 of -1 1 ", "root  0 of -1 1", "root 0  of -1 1", "root 0 of  -1 1", "root 0 of -1  1",
    "root 0 of -1 1\n", "\nroot 0 of -1 1", "root 0 of -1\n1", "root\n0 of -1 1", "root 0 of - 1 1", "root0 of -1 1",
    "root 0of -1 1", "root 0 of-1 1", "root 0 of\n-1 1",
    # ways to write integers
    "root 00 of -1 1", "root +0 of -1 1", "root -0 of -1 1", "root 0 of -01 1", "root 0 of -1 01", "root 0 of -1 +1",
    "root 0 of --1 1", "root 0 of -1 1.0", "root 0 of -1 1_0", "root 0 of -1 1e0", "root 0 of -1 0x1", "root 01 of 2 -4 1",
    "root 1 of -2 00 1", "root 1 of -2 -0 1", "root 1 of -2 +0 1", "root 0 of -3/2 1", "root 0 of -0003 2",
    "root 0. of -1 1", "root 0 of - 1", "root - of -1 1", "root 0 of 1- 1", "root 0 of -1 1-", "root True of -1 1",
    # terms
    "root 0 of -1001 1", "root 0 of -1 1001", "root 0 of 1 -1001 1", "root 0 of -10000 1", "root 0 of -1 10000",
    "root 0 of -1 0", "root 0 of -1 1 0", "root 1 of -2 0 1 0", "root 0 of 0 0", "root 0 of 0 0 0",
    "root 0 of -2 0 0 0 0 0 1", "root 0 of -1 0 0 0 0 0 0 1", "root 0 of -1 1 0 0 0 0 0",
    # not least: a last term below 0, a common divisor, products
    "root 0 of 1 -1", "root 0 of 3 -2", "root 1 of 2 0 -1", "root 1 of -2 4 -1", "root 0 of -2 2", "root 0 of -6 4",
    "root 1 of 4 -8 2", "root 1 of -4 0 2", "root 0 of -3 0 0 0 0 3", "root 0 of 2 -3 1", "root 1 of 2 -3 1",
    "root 0 of 0 -1 1", "root 1 of 0 -1 1", "root 1 of -1 0 1", "root 0 of 1 -2 1", "root 0 of -1 0 0 1",
    "root 0 of 4 -10 6 1", "root 0 of -4 10 -6 1", "root 2 of -4 10 -6 1", "root 1 of 4 0 -4 0 1",
    "root 0 of -6 0 1 0 1", "root 1 of -6 0 1 0 1", "root 0 of -1 0 0 0 1", "root 1 of 2 0 -3 0 1",
    "root 0 of -2 0 -2 1 0 1", "root 0 of -2 -2 -2 1 1 1", "root 0 of -1 0 0 0 0 1", "root 0 of 0 -2 0 0 0 1",
    "root 1 of 6 0 -5 0 1", "root 3 of 6 0 -5 0 1", "root 0 of -2 -2 0 1 1", "root 1 of 0 -2 0 1",
    "root 1 of 1 4 2 -4 1", "root 3 of 1 4 2 -4 1", "root 0 of -6 9 -5 1", "root 1 of -1 1000 1 -500 1000 500",
    "root 0 of -4 0 0 0 1", "root 0 of 4 0 0 0 1", "root 0 of 6 -5 1", "root 0 of -15 -2 8",
    # no root above 0 of this rank
    "root 1 of -1 1", "root -1 of -1 1", "root 0 of 1 1", "root 0 of 0 1", "root 1 of 0 1", "root 0 of 3 2",
    "root 0 of -2 0 1", "root 2 of -2 0 1", "root -1 of -2 0 1", "root 2 of 2 -4 1", "root 0 of 1 0 1",
    "root 0 of 2 4 1", "root 1 of 2 4 1", "root 0 of 1 -3 0 1", "root 3 of 1 -3 0 1", "root 0 of 2 0 0 1",
    "root 1 of -2 0 0 1", "root 0 of 1 0 -10 0 1", "root 1 of 1 0 -10 0 1", "root 4 of 1 0 -10 0 1",
    "root 0 of 1 -5 0 0 0 1", "root 3 of 1 -5 0 0 0 1", "root 0 of 2 0 0 0 0 1", "root 5 of -2 0 0 0 0 1",
    "root 10 of -2 0 0 1", "root 99999 of -2 0 0 1", "root 1000000000000 of -1 1",
)


class Texts(unittest.TestCase):
    def test_texts_of_shapes_are_taken(self):
        for text, rank, equation in RIGHT:
            with self.subTest(text=text):
                shape = Shape(text)
                self.assertEqual((shape.text, shape.rank, shape.equation), (text, rank, equation))
                self.assertEqual(shape.degree, len(equation) - 1)
        for text, _, _ in STRETCHES:
            with self.subTest(text=text):
                self.assertEqual(Shape(text=text).text, text)

    def test_ranks_count_all_real_roots_and_only_those_above_nought_are_shapes(self):
        for rank in range(-1, 7):
            with self.subTest(rank=rank):
                text = f"root {rank} of {FIVE}"
                if 2 <= rank <= 4:
                    self.assertEqual(Shape(text).rank, rank)
                else:
                    self.assert_wrong(text)

    def test_just_the_least_equations_are_taken(self):
        # With terms from -1 to 1 all factors of degree 1 and 2 are among these, since no root goes beyond 2.
        parts = [(0, 1), (1, 1), (-1, 1)] + [(end, middle, 1) for end in (1, -1) for middle in range(-4, 5)]
        least = 0
        for degree in (2, 3, 4, 5):
            for terms in product((-1, 0, 1), repeat=degree):
                equation = (*terms, 1)
                whole = not any(self.divides(part, equation) for part in parts if len(part) <= degree)
                taken = [rank for rank in range(6) if self.is_taken(f"root {rank} of {' '.join(map(str, equation))}")]
                with self.subTest(equation=equation):
                    if not whole:
                        self.assertEqual(taken, [])
                    elif equation[0] < 0:
                        self.assertNotEqual(taken, [])
                        least += 1
        self.assertGreater(least, 50)

    def divides(self, part, equation):
        rest = list(equation)
        while len(rest) >= len(part):
            factor = rest.pop()
            for at, term in enumerate(part[:-1]):
                rest[len(rest) - len(part) + 1 + at] -= factor * term
        return not any(rest)

    def is_taken(self, text):
        try:
            return Shape(text).text == text
        except InvalidText:
            return False

    def test_other_texts_are_not_taken(self):
        for text in WRONG:
            with self.subTest(text=text):
                self.assert_wrong(text)

    def test_other_values_are_not_taken(self):
        for value in ODD_VALUES:
            with self.subTest(value=repr(value)[:40]):
                self.assert_wrong(value)
        self.assert_wrong(Shape("root 0 of -1 1"))
        self.assert_wrong((-1, 1))
        self.assert_wrong(("root 0 of -1 1",))

    def test_long_texts_are_not_taken(self):
        for text in (
            "root " + "0" * 3900 + " of -1 1", "root 0 of -1 " + "1" * 3900, "root 0 of -1 " + "0" * 3900 + "1",
            "root 0 of -" + "9" * 400 + " 1", "root 0 of" + " 1" * 1900, "root 0 of -1 1" + " 0" * 1900,
            "root 0 of -1 1" + " " * 3900, " " * 4000, "x" * 4000, "-" * 4000, "root " + "9" * 400 + " of -1 1",
        ):
            with self.subTest(text=text[:20]):
                self.assert_wrong(text)

    def assert_wrong(self, value):
        for make in (lambda: Shape(value), lambda: Shape(text=value)):
            with self.assertRaises(InvalidText) as caught:
                make()
            self.assertIs(caught.exception.given, value)


if __name__ == "__main__":
    unittest.main()

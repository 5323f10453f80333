import unittest

from likepanes import limits


class Limits(unittest.TestCase):
    def test_each_limit_has_its_value(self):
        for name, value in (
            ("MOST_DEGREE", 5), ("MOST_TERM", 1000), ("MOST_PANES", 500), ("MOST_LEAVES", 12), ("MOST_FEW", 5),
            ("MOST_SHAPES", 4), ("MOST_SCALE", 10 ** 40),
        ):
            with self.subTest(name=name):
                self.assertIs(type(getattr(limits, name)), int)
                self.assertEqual(getattr(limits, name), value)


if __name__ == "__main__":
    unittest.main()

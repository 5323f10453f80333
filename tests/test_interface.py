import inspect
import unittest

from likepanes import cutting, errors, few, numbers, shapes, trees, writing

FUNCTIONS = (
    (shapes, "less", ["one", "other"]),
    (shapes, "alike", ["one", "other"]),
    (numbers, "number_of", ["shape", "fraction"]),
    (numbers, "root", ["shape"]),
    (numbers, "total", ["shape", "first", "second"]),
    (numbers, "product", ["shape", "first", "second"]),
    (numbers, "quotient", ["shape", "first", "second"]),
    (numbers, "opposite", ["shape", "number"]),
    (numbers, "sign", ["shape", "number"]),
    (numbers, "floor_of", ["shape", "number", "scale"]),
    (writing, "written", ["shape"]),
    (writing, "fills", ["shape"]),
    (writing, "steps", ["shape"]),
    (writing, "worth", ["shape", "fractions"]),
    (cutting, "cut_square", ["shape"]),
    (cutting, "panes_in", ["shape"]),
    (cutting, "is_cutting", ["shape", "panes", "width", "height"]),
    (cutting, "clash", ["shape", "panes"]),
    (trees, "panes_of", ["tree"]),
    (trees, "plain", ["tree"]),
    (trees, "ratio", ["shape", "tree"]),
    (trees, "laid", ["shape", "tree"]),
    (trees, "shapes_of", ["tree"]),
    (trees, "tree_of", ["shape", "panes", "width", "height"]),
    (few, "fillings", ["shape", "panes"]),
    (few, "fewest", ["shape"]),
    (few, "shapes_with", ["panes"]),
)


class Interface(unittest.TestCase):
    def test_functions_stand_in_their_files_with_their_parameters(self):
        for module, title, names in FUNCTIONS:
            with self.subTest(title=title):
                function = getattr(module, title)
                self.assertTrue(inspect.isfunction(function))
                self.assertEqual(function.__module__, module.__name__)
                self.assert_parameters(function, names)

    def test_the_class_has_all_that_is_listed_in_its_own_body(self):
        self.assertEqual(shapes.Shape.__module__, "likepanes.shapes")
        for title in ("__init__", "of", "text", "equation", "degree", "rank", "__eq__", "__str__"):
            self.assertIn(title, vars(shapes.Shape))
        for title in ("text", "equation", "degree", "rank"):
            self.assertIsInstance(vars(shapes.Shape)[title], property)
        self.assert_parameters(shapes.Shape, ["text"])
        self.assert_parameters(shapes.Shape.of, ["equation", "low", "high"])

    def test_errors_take_their_attributes_in_the_order_told(self):
        for title, names in (
            ("InvalidText", ["given"]), ("InvalidEquation", ["index"]), ("InUse", ["index"]), ("NoRoot", []),
            ("TooMany", ["limit"]), ("Broken", ["index", "shown"]),
        ):
            self.assert_parameters(getattr(errors, title), names)

    def assert_parameters(self, function, names):
        parameters = list(inspect.signature(function).parameters.values())
        self.assertEqual([parameter.name for parameter in parameters], names)
        for parameter in parameters:
            self.assertEqual(parameter.kind, inspect.Parameter.POSITIONAL_OR_KEYWORD)
            self.assertIs(parameter.default, inspect.Parameter.empty)


if __name__ == "__main__":
    unittest.main()

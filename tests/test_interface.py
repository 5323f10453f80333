import inspect
import unittest

from likepanes import benches, checker, cutting, desks, errors, few, numbers, papers, shapes, trees, writing

FUNCTIONS = (
    (shapes, "less", ["one", "other"]),
    (shapes, "alike", ["one", "other"]),
    (numbers, "number_of", ["shape", "fraction"]),
    (numbers, "root", ["shape"]),
    (numbers, "total", ["shape", "first", "second"]),
    (numbers, "product", ["shape", "first", "second"]),
    (numbers, "quotient", ["shape", "first", "second"]),
    (numbers, "opposite", ["shape", "number"]),
    (numbers, "sign", ["shape", "number"]),
    (numbers, "floor_of", ["shape", "number", "scale"]),
    (writing, "written", ["shape"]),
    (writing, "fills", ["shape"]),
    (writing, "steps", ["shape"]),
    (writing, "worth", ["shape", "fractions"]),
    (cutting, "cut_square", ["shape"]),
    (cutting, "panes_in", ["shape"]),
    (cutting, "is_cutting", ["shape", "panes", "width", "height"]),
    (cutting, "clash", ["shape", "panes"]),
    (trees, "panes_of", ["tree"]),
    (trees, "plain", ["tree"]),
    (trees, "ratio", ["shape", "tree"]),
    (trees, "laid", ["shape", "tree"]),
    (trees, "shapes_of", ["tree"]),
    (trees, "tree_of", ["shape", "panes", "width", "height"]),
    (few, "fillings", ["shape", "panes"]),
    (few, "fewest", ["shape"]),
    (few, "shapes_with", ["panes"]),
    (checker, "accepts", ["claim", "paper"]),
    (papers, "paper_of_shape", ["shape"]),
    (papers, "paper_of_writing", ["shape"]),
    (papers, "paper_of_tree", ["shape", "tree"]),
    (papers, "paper_of_likeness", ["one", "other"]),
)

# The parameters of each method beside the object itself.
METHODS = (
    (benches.Bench, {
        "__init__": ["shape"], "put": ["x", "y", "side", "way"], "take": ["index"], "undo": [], "trial": [],
        "tried": ["action"],
    }),
    (desks.Desk, {
        "__init__": [], "remove": ["name"], "claim": ["claim"], "lift": ["index"], "undo": [], "trial": [],
        "tried": ["action"],
    }),
)
PROPERTIES = (
    (benches.Bench, ("shape", "panes", "left", "is_full", "changes")),
    (desks.Desk, ("titles", "claims", "changes")),
)
OPERATORS = ("__getitem__", "__setitem__", "__contains__", "__len__", "__bool__")


class Interface(unittest.TestCase):
    def test_functions_stand_in_their_files_with_their_parameters(self):
        for module, title, names in FUNCTIONS:
            with self.subTest(title=title):
                function = getattr(module, title)
                self.assertTrue(inspect.isfunction(function))
                self.assertEqual(function.__module__, module.__name__)
                self.assert_parameters(function, names)

    def test_the_class_has_all_that_is_listed_in_its_own_body(self):
        self.assertEqual(shapes.Shape.__module__, "likepanes.shapes")
        for title in ("__init__", "of", "text", "equation", "degree", "rank", "__eq__", "__str__"):
            self.assertIn(title, vars(shapes.Shape))
        for title in ("text", "equation", "degree", "rank"):
            self.assertIsInstance(vars(shapes.Shape)[title], property)
        self.assert_parameters(shapes.Shape, ["text"])
        self.assert_parameters(shapes.Shape.of, ["equation", "low", "high"])

    def test_benches_and_desks_have_all_that_is_listed_in_their_own_bodies(self):
        self.assertEqual(benches.Bench.__module__, "likepanes.benches")
        self.assertEqual(desks.Desk.__module__, "likepanes.desks")
        for owner, methods in METHODS:
            for title, names in methods.items():
                self.assertTrue(inspect.isfunction(vars(owner)[title]))
                self.assert_parameters(vars(owner)[title], ["self", *names])
        for owner, titles in PROPERTIES:
            for title in titles:
                self.assertIsInstance(vars(owner)[title], property)
        for title in OPERATORS:
            self.assertIn(title, vars(desks.Desk))

    def test_errors_take_their_attributes_in_the_order_told(self):
        for title, names in (
            ("InvalidText", ["given"]), ("InvalidEquation", ["index"]), ("InUse", ["index"]), ("NoRoot", []),
            ("TooMany", ["limit"]), ("Broken", ["index", "shown"]),
        ):
            self.assert_parameters(getattr(errors, title), names)

    def assert_parameters(self, function, names):
        parameters = list(inspect.signature(function).parameters.values())
        self.assertEqual([parameter.name for parameter in parameters], names)
        for parameter in parameters:
            self.assertEqual(parameter.kind, inspect.Parameter.POSITIONAL_OR_KEYWORD)
            self.assertIs(parameter.default, inspect.Parameter.empty)


if __name__ == "__main__":
    unittest.main()

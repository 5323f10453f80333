import unittest
from random import Random

from known import ODD_VALUES, Anything, Raises, Ruler, all_trees, rest_of, square_terms, tree_ratio, tree_text
from likepanes.benches import Bench
from likepanes.desks import Desk
from likepanes.errors import Broken, InUse, InvalidClaim, InvalidIndex, InvalidName
from likepanes.errors import NotAShape, NothingToUndo, UnknownName
from likepanes.shapes import Shape
from likepanes.writing import steps, written

ONE, TWO, HALF, TALL = "root 0 of -1 1", "root 0 of -2 1", "root 0 of -1 2", "root 0 of -3 2"
WIDE, ROOT_TWO = "root 1 of 2 -4 1", "root 1 of -2 0 1"

# Whether squares can be filled: where all roots of the equation are right of nought.
FILLED = {
    ONE: True, TWO: True, HALF: True, TALL: True, "root 0 of -2 3": True, "root 0 of -5 1": True,
    "root 0 of -6 1": True, "root 0 of -7 12": True, WIDE: True, "root 0 of 2 -4 1": True, "root 0 of 1 -4 2": True,
    "root 1 of 1 -3 1": True, "root 0 of 1 -3 1": True, "root 0 of -1 1 -2 1": True, "root 0 of -1 2 -1 1": True,
    ROOT_TWO: False, "root 1 of -1 0 2": False, "root 1 of -1 -1 1": False, "root 0 of -2 0 0 1": False,
}

# Which two different ones of them are 1 by one another.
TURNED = (
    (TWO, HALF), (TALL, "root 0 of -2 3"), (WIDE, "root 0 of 1 -4 2"), ("root 1 of 1 -3 1", "root 0 of 1 -3 1"),
    ("root 0 of -1 1 -2 1", "root 0 of -1 2 -1 1"), (ROOT_TWO, "root 1 of -1 0 2"),
)

TREES = (
    "l", "s", ("(", "l", "l"), ("[", "l", "l"), ("[", "s", "s"), ("[", ("(", "l", "l"), "l"),
    ("(", ("[", "s", "s"), "s"), ("[", ("(", "l", "l", "l", "l"), ("(", "s", "s")), ("[", "l", "s"),
    ("(", *"lllll"), ("[", *"llllllllllll"),
)
NAMES = ("l", "few", "a", "zzzzzzzz")
WRONG_NAMES = (
    "", "abcdefghi", "A", "aB", "a1", "1", "a b", " a", "a\n", "a-b", "a_b", "`", "{", "\u00e9", b"a", ("a",), ["a"],
)


def counted():
    """The least number of panes, up to five, of a tree for each of the texts, None if there is none."""
    found = dict.fromkeys(FILLED)
    for many in range(5, 0, -1):
        terms = {square_terms(tree) for tree in all_trees(many).values()}
        for text in found:
            equation = tuple(int(word) for word in text.split(" ")[3:])
            if any(sum_of == () or rest_of(sum_of, equation) == () for sum_of in terms):
                found[text] = many
    return found


def told(desk):
    return desk.titles, [desk[name].text for name in desk.titles], desk.claims, desk.changes, len(desk)


def desk_with(claims=(), **texts):
    desk = Desk()
    for name, text in texts.items():
        desk[name] = Shape(text)
    for claim in claims:
        desk.claim(claim)
    return desk


class Plain:
    """A desk of the tests: for each change a dict of texts and a list of claims."""

    FEWEST = counted()
    TREES = {tree_text(tree): tree for tree in TREES}
    RULERS = {text: Ruler(text) for text in FILLED}

    def __init__(self):
        self.rows = [({}, [])]

    def put(self, name, text):
        texts, claims = self.rows[-1]
        return self.asked({**texts, name: text}, claims)

    def remove(self, name):
        texts, claims = self.rows[-1]
        if name not in texts:
            return UnknownName, {"given": name}
        for index, claim in enumerate(claims):
            if name == claim[1] or claim[0] == "alike" and name == claim[2]:
                return InUse, {"index": index}
        self.rows.append(({other: text for other, text in texts.items() if other != name}, claims))
        return None

    def claim(self, claim):
        texts, claims = self.rows[-1]
        for name in claim[1:] if claim[0] == "alike" else claim[1:2]:
            if name not in texts:
                return UnknownName, {"given": name}
        return self.asked(texts, claims + [claim])

    def lift(self, index):
        texts, claims = self.rows[-1]
        if not 0 <= index < len(claims):
            return InvalidIndex, {"given": index}
        self.rows.append((texts, claims[:index] + claims[index + 1:]))
        return None

    def undo(self):
        if len(self.rows) == 1:
            return NothingToUndo, {}
        self.rows.pop()
        return None

    def asked(self, texts, claims):
        for index, claim in enumerate(claims):
            holds, shown = self.holds(texts, claim)
            if not holds:
                return Broken, {"index": index, "shown": shown}
        self.rows.append((texts, claims))
        return None

    def holds(self, texts, claim):
        text = texts[claim[1]]
        if claim[0] == "fills":
            return FILLED[text], steps(Shape(text))
        if claim[0] == "never":
            return not FILLED[text], written(Shape(text))
        if claim[0] == "few":
            least = self.FEWEST[text]
            return least is not None and least <= claim[2], least
        if claim[0] == "tree":
            ruler = self.RULERS[text]
            ratio = tree_ratio(ruler, self.TREES[claim[2]])
            return ratio == ruler.unit, ruler.number(ratio)
        other = texts[claim[2]]
        return text == other or (text, other) in TURNED or (other, text) in TURNED, None

    def told(self):
        texts, claims = self.rows[-1]
        titles = tuple(sorted(texts))
        return titles, [texts[name] for name in titles], tuple(claims), len(self.rows) - 1, len(texts)


class Desks(Raises, unittest.TestCase):
    def test_a_new_desk(self):
        desk = Desk()
        self.assertEqual((desk.titles, desk.claims, desk.changes, len(desk)), ((), (), 0, 0))
        self.assertIs(bool(desk), True)

    def test_a_desk_is_true_and_equal_to_itself_alone(self):
        desk, other = Desk(), Desk()
        for value in (other, *ODD_VALUES):
            self.assertFalse(desk == value)
            self.assertTrue(desk != value)
        self.assertTrue(desk == desk)
        self.assertFalse(desk != desk)
        desk["a"] = Shape(ONE)
        self.assertIs(bool(desk), True)

    def test_shapes_under_names(self):
        desk, shapes = Desk(), [Shape(text) for text in FILLED]
        for many, shape in enumerate(shapes):
            desk["zyxwvutsrqponmlkjihgfedcba"[many]] = shape
            self.assertEqual((len(desk), desk.changes), (many + 1, many + 1))
        self.assertEqual(desk.titles, tuple("zyxwvutsrqponmlkjihgfedcba"[:len(shapes)][::-1]))
        for name, shape in zip("zyxwvutsrqponmlkjihgfedcba", shapes):
            self.assertEqual(desk[name], shape)
        desk["z"] = shapes[3]
        self.assertEqual((desk["z"], len(desk), desk.changes), (shapes[3], len(shapes), len(shapes) + 1))

    def test_titles_ascend_as_strings(self):
        names = ["b", "ab", "a", "aa", "zzzzzzzz", "abcdefgh", "z", "ba"]
        desk = desk_with(**dict.fromkeys(names, ONE))
        self.assertEqual(desk.titles, tuple(sorted(names)))
        self.assertIs(type(desk.titles), tuple)
        desk.remove("ab")
        self.assertEqual(desk.titles, ("a", "aa", "abcdefgh", "b", "ba", "z", "zzzzzzzz"))

    def test_in(self):
        desk = desk_with(a=ONE, root=TWO)
        for value in ("a", "root"):
            self.assertIs(value in desk, True)
        for value in ODD_VALUES + WRONG_NAMES + ("b", "aa", Shape(ONE), desk, ONE):
            self.assertIs(value in desk, isinstance(value, str) and value == "root")
        desk.remove("a")
        self.assertNotIn("a", desk)

    def test_methods_and_their_arguments_by_name(self):
        desk = desk_with(a=ONE, b=ONE)
        self.assertIsNone(desk.claim(claim=("alike", "a", "b")))
        self.assertEqual(desk.claims, (("alike", "a", "b"),))
        self.assertIsNone(desk.lift(index=0))
        self.assertIsNone(desk.remove(name="a"))
        self.assertEqual(told(desk), (("b",), [ONE], (), 5, 1))
        self.assertIsNone(desk.undo())
        self.assertEqual(told(desk), (("a", "b"), [ONE, ONE], (), 4, 2))

    def test_a_change_that_changes_nothing_counts(self):
        desk = desk_with(a=ONE)
        desk["a"] = Shape(ONE)
        desk["a"] = desk["a"]
        self.assertEqual(desk.changes, 3)
        desk.claim(("fills", "a"))
        desk.claim(("fills", "a"))
        self.assertEqual((desk.changes, desk.claims), (5, (("fills", "a"),) * 2))
        for many in range(4, -1, -1):
            desk.undo()
            self.assertEqual(desk.changes, many)
        self.assertEqual(len(desk), 0)

    def test_desks_are_apart(self):
        one, other = desk_with(a=ONE), desk_with(b=TWO)
        one.claim(("fills", "a"))
        self.assertEqual((told(one)[:3], told(other)[:3]), ((("a",), [ONE], (("fills", "a"),)), (("b",), [TWO], ())))
        self.assertNotIn("a", Desk())


class Errors(Raises, unittest.TestCase):
    def setUp(self):
        claims = (("tree", "l", "(l l)"), ("alike", "half", "l"), ("fills", "w"), ("few", "half", 3))
        self.desk = desk_with(claims, l=TWO, half=HALF, w=WIDE, free=ROOT_TWO)
        self.before = told(self.desk)

    def tearDown(self):
        self.assertEqual(told(self.desk), self.before)

    def put(self, name, shape):
        self.desk[name] = shape

    def test_names(self):
        for value in ODD_VALUES + WRONG_NAMES:
            if isinstance(value, str) and value in ("x", "root"):
                continue
            self.assert_raised(InvalidName, {"given": value}, self.put, value, Shape(ONE))
            self.assert_raised(InvalidName, {"given": value}, self.put, value, None)

    def test_what_is_put(self):
        for value in ODD_VALUES + (ONE, Bench(Shape(ONE)), self.desk):
            self.assert_raised(NotAShape, {"given": value}, self.put, "free", value)
            self.assert_raised(NotAShape, {"given": value}, self.put, "half", value)
            self.assert_raised(NotAShape, {"given": value}, self.put, "other", value)

    def test_unknown_names(self):
        for value in ODD_VALUES + WRONG_NAMES + ("other", "L", "hal", "halfs", Shape(TWO), self.desk):
            self.assert_raised(UnknownName, {"given": value}, lambda name: self.desk[name], value)
            self.assert_raised(UnknownName, {"given": value}, self.desk.remove, value)

    def test_names_in_use(self):
        for name, index in (("l", 0), ("half", 1), ("w", 2)):
            self.assert_raised(InUse, {"index": index}, self.desk.remove, name)

    def test_claims_that_are_none(self):
        given = [value for value in ODD_VALUES]
        given += [("fills",), ("fills", "w", "w"), ("never",), ("never", "free", 1), ("few", "l"), ("few", "l", 3, 3)]
        given += [("tree", "l"), ("tree", "l", "l", "l"), ("alike", "l"), ("alike", "l", "l", "l")]
        given += [("written", "l", ((1, 2),)), ("filled", "w"), ("Fills", "w"), ("fills ", "w"), ("", "w"), "fills"]
        given += [["fills", "w"], (b"fills", "w"), (("fills",), "w"), (["fills"], "w"), (None, "w"), (2, "w")]
        given += [("few", "l", most) for most in ODD_VALUES + (6, -5, "3", (3,), [3])]
        given += [("tree", "l", tree) for tree in ODD_VALUES + ("(l)", "[l l", "l l", "(l  l)", "[" + "l " * 12 + "l]")]
        for value in given:
            self.assert_raised(InvalidClaim, {"given": value}, self.desk.claim, value)

    def test_kinds_of_claims_are_checked_ahead_of_names(self):
        for claim in (("few", "other", 0), ("few", [], True), ("tree", "other", "x"), ("tree", None, ("l",))):
            self.assert_raised(InvalidClaim, {"given": claim}, self.desk.claim, claim)

    def test_names_of_claims(self):
        for value in ODD_VALUES + WRONG_NAMES + ("other", "L", Shape(TWO), self.desk):
            for claim in (
                ("fills", value), ("never", value), ("few", value, 1), ("tree", value, "l"), ("alike", value, "l"),
                ("alike", "l", value), ("alike", "w", value), ("alike", value, "nowhere"),
            ):
                self.assert_raised(UnknownName, {"given": value}, self.desk.claim, claim)
        self.assert_raised(UnknownName, {"given": "other"}, self.desk.claim, ("alike", "other", None))

    def test_what_is_only_equal_to_what_is_right(self):
        odd = Anything()
        self.assertIs(odd in self.desk, False)
        for claim in ((odd, "w"), odd, ("few", "l", odd), ("tree", "l", odd)):
            self.assert_raised(InvalidClaim, {"given": claim}, self.desk.claim, claim)
        for claim in (("fills", odd), ("alike", "l", odd), ("alike", odd, "l")):
            self.assert_raised(UnknownName, {"given": odd}, self.desk.claim, claim)
        self.assert_raised(UnknownName, {"given": odd}, self.desk.remove, odd)
        self.assert_raised(UnknownName, {"given": odd}, lambda name: self.desk[name], odd)
        self.assert_raised(InvalidName, {"given": odd}, self.put, odd, Shape(ONE))
        self.assert_raised(NotAShape, {"given": odd}, self.put, "free", odd)
        self.assert_raised(InvalidIndex, {"given": odd}, self.desk.lift, odd)

    def test_indexes_of_claims(self):
        for value in ODD_VALUES + (4, -4, "0", (0,), 10 ** 30):
            if value is not False and isinstance(value, int) and value == 0:
                continue
            self.assert_raised(InvalidIndex, {"given": value}, self.desk.lift, value)
        self.assert_raised(InvalidIndex, {"given": 0}, Desk().lift, 0)

    def test_claims_that_do_not_hold(self):
        shape = Shape(ROOT_TWO)
        for claim, shown in (
            (("fills", "free"), steps(shape)), (("never", "w"), ((1, 4), (2, 1))), (("never", "l"), ((1, 2),)),
            (("few", "half", 1), 2), (("few", "w", 5), None), (("few", "free", 5), None), (("alike", "w", "l"), None),
            (("tree", "l", "(l l l)"), (3, 2)), (("tree", "half", "(l l)"), (4, 1)),
            (("tree", "w", "[l s]"), (2, 4, 1)),
        ):
            self.assert_raised(Broken, {"index": 4, "shown": shown}, self.desk.claim, claim)

    def test_shapes_that_break_claims(self):
        for name, text, index, shown in (
            ("l", HALF, 0, (4, 1)), ("l", TALL, 0, (4, 3)), ("l", ROOT_TWO, 0, (2, 0, 1)), ("half", TALL, 1, None),
            ("w", ROOT_TWO, 2, ()), ("w", "root 0 of -2 0 0 1", 2, steps(Shape("root 0 of -2 0 0 1"))),
        ):
            self.assert_raised(Broken, {"index": index, "shown": shown}, self.put, name, Shape(text))


class Claims(Raises, unittest.TestCase):
    def assert_guarded(self, desk, claim, name, text, shown):
        """A claim is made, goes against a shape, is lifted, and then goes no more against it."""
        before = told(desk)
        self.assertIsNone(desk.claim(claim))
        self.assertEqual(told(desk), (*before[:2], (*before[2], claim), before[3] + 1, before[4]))
        index, held = len(before[2]), told(desk)
        with self.assertRaises(Broken) as caught:
            desk[name] = Shape(text)
        self.assertEqual((caught.exception.index, caught.exception.shown), (index, shown))
        self.assertEqual(told(desk), held)
        self.assertIsNone(desk.lift(index))
        self.assertEqual(told(desk), (*before[:3], before[3] + 2, before[4]))
        desk[name] = Shape(text)
        self.assertEqual(desk[name].text, text)
        with self.assertRaises(Broken) as caught:
            desk.claim(claim)
        self.assertEqual((caught.exception.index, caught.exception.shown), (index, shown))
        self.assertEqual(desk.changes, before[3] + 3)

    def test_fills(self):
        cubic = "root 0 of -2 0 0 1"
        for text in (ROOT_TWO, cubic, "root 1 of -1 -1 1", "root 3 of 1 0 -10 0 1"):
            self.assert_guarded(desk_with(a=WIDE), ("fills", "a"), "a", text, steps(Shape(text)))

    def test_never(self):
        for text in (ONE, WIDE, TALL, "root 0 of -1 1 -2 1"):
            self.assert_guarded(desk_with(a=ROOT_TWO), ("never", "a"), "a", text, written(Shape(text)))

    def test_few(self):
        for old, most, text, shown in (
            (ONE, 1, TWO, 2), (TWO, 2, TALL, 3), (TALL, 4, "root 0 of -5 1", 5), (TALL, 3, "root 0 of -6 1", None),
            ("root 0 of -5 1", 5, "root 0 of -7 1", None), (ONE, 5, ROOT_TWO, None), (TWO, 5, WIDE, None),
        ):
            self.assert_guarded(desk_with(a=old), ("few", "a", most), "a", text, shown)

    def test_tree(self):
        for old, tree, text, shown in (
            (TWO, "(l l)", TALL, (4, 3)), (TWO, "[s s]", HALF, (1, 4)), (ONE, "l", TWO, (1, 2)),
            (ONE, "s", TWO, (2, 1)), (WIDE, "[(l l l l) (s s)]", ROOT_TWO, (2, 0, 1)),
            ("root 0 of -1 12", "[l l l l l l l l l l l l]", ONE, (1, 12)),
            (TALL, "([l l] l)", ONE, (3, 2)),
        ):
            self.assert_guarded(desk_with(a=old), ("tree", "a", tree), "a", text, shown)

    def test_alike(self):
        for name, text in (("a", WIDE), ("b", WIDE), ("a", HALF)):
            desk = desk_with(a=TALL, b="root 0 of -2 3")
            self.assert_guarded(desk, ("alike", "a", "b"), name, text, None)
        desk = desk_with((("alike", "a", "a"),), a=TALL)
        desk["a"] = Shape(WIDE)
        desk.claim(("alike", "a", "a"))
        self.assert_raised(InUse, {"index": 0}, desk.remove, "a")

    def test_the_first_claim_that_is_broken_is_told(self):
        claims = [("few", "a", 5), ("fills", "b"), ("alike", "a", "b"), ("tree", "a", "(l l)"), ("few", "a", 2)]
        for turn in range(5):
            rows = claims[turn:] + claims[:turn]
            desk = desk_with(rows, a=TWO, b=HALF)
            for text, broken in ((TALL, claims[2:]), (HALF, claims[3:4]), (ROOT_TWO, claims[:1] + claims[2:])):
                with self.assertRaises(Broken) as caught:
                    desk["a"] = Shape(text)
                self.assertEqual(caught.exception.index, min(rows.index(claim) for claim in broken))
                self.assertEqual(told(desk), (("a", "b"), [TWO, HALF], tuple(rows), 7, 2))

    def test_claims_about_other_names_go_on_to_hold(self):
        desk = desk_with((("fills", "a"), ("tree", "a", "(l l)")), a=TWO, l=TWO)
        for text in (ROOT_TWO, WIDE):
            desk["l"] = Shape(text)
            desk["b"] = Shape(text)
        desk.claim(("fills", "l"))
        desk.lift(2)
        desk.remove("l")
        self.assertEqual(desk.titles, ("a", "b"))

    def test_trees_and_words_that_look_like_names(self):
        desk = desk_with((("tree", "a", "l"), ("fills", "a")), a=ONE, l=ROOT_TWO, fills=ROOT_TWO, tree=ROOT_TWO)
        for name in ("l", "fills", "tree"):
            desk[name] = Shape(WIDE)
            desk.remove(name)
        self.assertEqual(desk.titles, ("a",))
        claims = (("fills", "fills"), ("alike", "alike", "l"), ("tree", "s", "s"))
        desk = desk_with(claims, fills=TWO, alike=HALF, l=TWO, s=ONE)
        for name, index in (("fills", 0), ("alike", 1), ("l", 1), ("s", 2)):
            self.assert_raised(InUse, {"index": index}, desk.remove, name)

    def test_a_lifted_claim_moves_the_others(self):
        claims = (("fills", "a"), ("few", "a", 2), ("fills", "b"), ("alike", "a", "b"))
        for index in range(4):
            desk = desk_with(claims, a=TWO, b=HALF)
            desk.lift(index)
            self.assertEqual(desk.claims, claims[:index] + claims[index + 1:])
            desk.undo()
            self.assertEqual(desk.claims, claims)

    def test_removed_shapes_come_again(self):
        desk = desk_with(a=TWO, b=HALF)
        desk.remove("a")
        self.assertEqual(told(desk), (("b",), [HALF], (), 3, 1))
        self.assert_raised(UnknownName, {"given": "a"}, desk.claim, ("fills", "a"))
        desk.undo()
        self.assertEqual(told(desk), (("a", "b"), [TWO, HALF], (), 2, 2))
        desk.claim(("fills", "a"))
        desk.lift(0)
        desk.remove("a")
        desk["a"] = Shape(ROOT_TWO)
        desk.claim(("never", "a"))


class LongRows(Raises, unittest.TestCase):
    def test_changes_at_random_against_plain_dicts(self):
        seen = set()
        for seed in range(10):
            self.run_changes(Random(seed), seen)
        for word in ("fills", "never", "few", "tree", "alike"):
            self.assertTrue({(word, "made"), (word, "broken at once"), (word, "broken later")} <= seen, word)
        for error in (UnknownName, InUse, InvalidIndex, NothingToUndo):
            self.assertIn(error, seen)

    def run_changes(self, pick, seen):
        desk, plain = Desk(), Plain()
        for _ in range(90):
            self.change(pick, desk, plain, seen)
            self.assertEqual(told(desk), plain.told())
        while len(plain.rows) > 1:
            desk.undo()
            plain.undo()
            self.assertEqual(told(desk), plain.told())

    def change(self, pick, desk, plain, seen):
        word = pick.choice(("put", "put", "put", "remove", "claim", "claim", "claim", "lift", "undo"))
        if word == "put":
            name, text = pick.choice(NAMES), self.some_text(pick, list(plain.rows[-1][0].values()))
            claims, found = plain.rows[-1][1], plain.put(name, text)
            if found is not None:
                seen.add((claims[found[1]["index"]][0], "broken later"))
            self.assert_outcome(found, self.put, desk, name, Shape(text))
        elif word == "claim":
            claim = self.some_claim(pick, plain.rows[-1][0])
            found = plain.claim(claim)
            if found is None or found[0] is Broken:
                seen.add((claim[0], "made" if found is None else "broken at once"))
            self.assert_outcome(found, desk.claim, claim)
        else:
            given = {"remove": [pick.choice(NAMES)], "lift": [pick.randrange(5)], "undo": []}[word]
            found = getattr(plain, word)(*given)
            self.assert_outcome(found, getattr(desk, word), *given)
        if found is not None:
            seen.add(found[0])

    def put(self, desk, name, shape):
        desk[name] = shape

    def some_text(self, pick, texts):
        """Any one of the texts, or one that is alike to a shape that is there."""
        if not texts or pick.random() < 0.6:
            return pick.choice(list(FILLED))
        text = pick.choice(texts)
        return next((one if two == text else two for one, two in TURNED if text in (one, two)), text)

    def some_claim(self, pick, texts):
        word = pick.choice(("fills", "never", "few", "tree", "alike"))
        names = list(texts) if texts and pick.random() < 0.9 else NAMES
        one, other, trees = pick.choice(names), pick.choice(names), [tree_text(tree) for tree in TREES]
        if one in texts and pick.random() < 0.6:
            trees = [tree for tree in trees if Plain().holds(texts, ("tree", one, tree))[0]] or trees
        rest = {"few": [pick.randint(1, 5)], "tree": [pick.choice(trees)], "alike": [other]}
        return (word, one, *rest.get(word, []))

    def assert_outcome(self, found, function, *given):
        if found is None:
            self.assertIsNone(function(*given))
        else:
            self.assert_raised(*found, function, *given)

    def test_many_names(self):
        desk, names = Desk(), [f"{one}{other}" for one in "abcdefghijklmnopqrst" for other in "zyxwvutsrq"]
        shapes = [Shape(ONE), Shape(ROOT_TWO)]
        for many, name in enumerate(names):
            desk[name] = shapes[many % 2]
            desk.claim(("fills" if many % 2 == 0 else "never", name))
        self.assertEqual((len(desk), desk.changes, desk.titles), (200, 400, tuple(sorted(names))))
        self.assert_raised(Broken, {"index": 7, "shown": ((1, 1),)}, self.put, desk, names[7], shapes[0])
        self.assert_raised(InUse, {"index": 199}, desk.remove, names[199])
        for many in range(199, -1, -1):
            desk.undo()
            self.assertEqual((len(desk), len(desk.claims), desk.changes), (many + 1, many, 2 * many + 1))
            desk.undo()
            self.assertEqual((len(desk), desk.changes, names[many] in desk), (many, 2 * many, False))


if __name__ == "__main__":
    unittest.main()

"""Attempts at benches and desks, and changes taken back."""

import unittest
from fractions import Fraction
from random import Random

from known import Raises, fraction
from likepanes.benches import Bench
from likepanes.desks import Desk
from likepanes.errors import NothingToUndo, Overlaps, UnknownName
from likepanes.shapes import Shape


class OfBenches:
    """A bench for a hundred small squares: how to change it, and all that it tells."""

    wrong = Overlaps

    def make(self):
        bench = Bench(Shape("root 0 of -1 1"))
        self.change(bench, 0)
        return bench

    def change(self, bench, at):
        bench.put(fraction(Fraction(at // 10, 10)), fraction(Fraction(at % 10, 10)), (10, 1), "lying")

    def change_wrongly(self, bench):
        bench.put(*bench.panes[0])

    def told(self, bench):
        return bench.panes, bench.left, bench.is_full, bench.changes


class OfDesks:
    """A desk with shapes and claims: how to change it, and all that it tells."""

    wrong = UnknownName

    def make(self):
        desk = Desk()
        self.change(desk, 1)
        return desk

    def change(self, desk, at):
        if at % 3 == 0:
            desk.claim(("few", "ab", 1 + at % 5))
        else:
            desk["abcdefghij"[at // 10] + "abcdefghij"[at % 10]] = Shape(f"root 0 of -{at} 1")

    def change_wrongly(self, desk):
        desk.claim(("fills", "nowhere"))

    def told(self, desk):
        return desk.titles, [desk[name].text for name in desk.titles], desk.claims, desk.changes, len(desk)


KINDS = (OfBenches(), OfDesks())


class Wrong(Exception):
    pass


class Stopped(BaseException):
    pass


class Trials(Raises, unittest.TestCase):
    def each(self):
        return [(kind, kind.make()) for kind in KINDS]

    def test_a_call_alone_changes_nothing(self):
        for kind, owner in self.each():
            before = kind.told(owner)
            trial = owner.trial()
            self.assertEqual(kind.told(owner), before)
            kind.change(owner, 2)
            del trial
            self.assertEqual(owner.changes, before[3] + 1)

    def test_as_gives_the_object(self):
        for kind, owner in self.each():
            with owner.trial() as held:
                self.assertIs(held, owner)

    def test_what_ends_well_stays(self):
        for kind, owner in self.each():
            other = kind.make()
            with owner.trial():
                kind.change(owner, 2)
                kind.change(owner, 3)
            kind.change(other, 2)
            kind.change(other, 3)
            self.assertEqual(kind.told(owner), kind.told(other))
            self.assertEqual(owner.changes, 3)
            owner.undo()
            other.undo()
            self.assertEqual(kind.told(owner), kind.told(other))

    def test_leaving_the_rows_is_no_exception(self):
        def leave(owner, kind):
            with owner.trial():
                kind.change(owner, 2)
                return "left"

        for kind, owner in self.each():
            self.assertEqual(leave(owner, kind), "left")
            for at in (3, 4):
                with owner.trial():
                    kind.change(owner, at)
                    if at == 3:
                        continue
                    break
            self.assertEqual(owner.changes, 4)

    def test_an_exception_is_passed_on_and_takes_all_back(self):
        for kind, owner in self.each():
            kind.change(owner, 4)
            before, error = kind.told(owner), Wrong("x")
            with self.assertRaises(Wrong) as caught:
                with owner.trial():
                    kind.change(owner, 2)
                    kind.change(owner, 3)
                    raise error
            self.assertIs(caught.exception, error)
            self.assertEqual(kind.told(owner), before)
            owner.undo()
            self.assertEqual(kind.told(owner), kind.told(kind.make()))

    def test_each_kind_of_exception_counts(self):
        for made in (ValueError, Stopped, KeyboardInterrupt, GeneratorExit, SystemExit, StopIteration):
            for kind, owner in self.each():
                before = kind.told(owner)
                with self.assertRaises(made):
                    with owner.trial():
                        kind.change(owner, 2)
                        raise made()
                self.assertEqual(kind.told(owner), before)

    def test_an_error_of_the_object_itself_counts(self):
        for kind, owner in self.each():
            before = kind.told(owner)
            with self.assertRaises(kind.wrong):
                with owner.trial():
                    kind.change(owner, 2)
                    kind.change_wrongly(owner)
            self.assertEqual(kind.told(owner), before)

    def test_an_error_caught_within_takes_nothing_back(self):
        for kind, owner in self.each():
            with owner.trial():
                kind.change(owner, 2)
                with self.assertRaises(kind.wrong):
                    kind.change_wrongly(owner)
            self.assertEqual(owner.changes, 2)

    def test_what_was_taken_back_within_comes_again(self):
        for kind, owner in self.each():
            kind.change(owner, 2)
            before = kind.told(owner)
            with self.assertRaises(Wrong):
                with owner.trial():
                    kind.change(owner, 3)
                    for _ in range(3):
                        owner.undo()
                    with self.assertRaises(NothingToUndo):
                        owner.undo()
                    kind.change(owner, 5 if isinstance(owner, Bench) else 1)
                    raise Wrong()
            self.assertEqual(kind.told(owner), before)
            with owner.trial():
                owner.undo()
                owner.undo()
            self.assertEqual(owner.changes, 0)

    def test_an_inner_attempt_may_fail_alone(self):
        for kind, owner in self.each():
            with owner.trial():
                kind.change(owner, 2)
                between = kind.told(owner)
                with self.assertRaises(Wrong):
                    with owner.trial():
                        kind.change(owner, 3)
                        raise Wrong()
                self.assertEqual(kind.told(owner), between)
                kind.change(owner, 4)
            self.assertEqual(owner.changes, 3)

    def test_an_outer_attempt_takes_an_inner_one_back(self):
        for kind, owner in self.each():
            before = kind.told(owner)
            with self.assertRaises(Wrong):
                with owner.trial():
                    with owner.trial():
                        kind.change(owner, 3)
                    kind.change(owner, 4)
                    raise Wrong()
            self.assertEqual(kind.told(owner), before)

    def test_the_same_attempt_within_itself(self):
        for kind, owner in self.each():
            before, trial = kind.told(owner), owner.trial()
            with self.assertRaises(Stopped):
                with trial as first:
                    kind.change(owner, 2)
                    outer = kind.told(owner)
                    with trial:
                        kind.change(owner, 3)
                        inner = kind.told(owner)
                        with self.assertRaises(Wrong):
                            with trial as third:
                                kind.change(owner, 4)
                                raise Wrong()
                        self.assertEqual(kind.told(owner), inner)
                    self.assertEqual(kind.told(owner), inner)
                    with self.assertRaises(Wrong):
                        with trial:
                            owner.undo()
                            owner.undo()
                            raise Wrong()
                    self.assertEqual(kind.told(owner), inner)
                    owner.undo()
                    self.assertEqual(kind.told(owner), outer)
                    raise Stopped()
            self.assertEqual(kind.told(owner), before)
            self.assertIs(first, third)

    def test_an_attempt_begins_where_its_rows_begin(self):
        for kind, owner in self.each():
            trial = owner.trial()
            for at in (2, 3):
                kind.change(owner, at)
                before = kind.told(owner)
                with self.assertRaises(Wrong):
                    with trial:
                        kind.change(owner, 4)
                        raise Wrong()
                self.assertEqual(kind.told(owner), before)

    def test_attempts_of_two_objects_are_apart(self):
        for kind, owner in self.each():
            other = kind.make()
            with self.assertRaises(Wrong):
                with owner.trial(), other.trial():
                    kind.change(owner, 2)
                    raise Wrong()
            with other.trial():
                kind.change(other, 2)
                with self.assertRaises(Wrong):
                    with owner.trial():
                        kind.change(other, 3)
                        kind.change(owner, 3)
                        raise Wrong()
            self.assertEqual((owner.changes, other.changes), (1, 3))

    def test_two_attempts_need_not_end_in_turn(self):
        for kind, owner in self.each():
            before, one, other = kind.told(owner), owner.trial(), owner.trial()
            one.__enter__()
            kind.change(owner, 2)
            other.__enter__()
            kind.change(owner, 3)
            self.assertFalse(one.__exit__(Wrong, Wrong(), None))
            self.assertEqual(kind.told(owner), before)
            self.assertFalse(other.__exit__(None, None, None))
            self.assertEqual(kind.told(owner), before)

    def test_tried_calls_with_the_object_and_returns_what_comes(self):
        for kind, owner in self.each():
            result, seen = object(), []

            def action(held):
                seen.append(held)
                kind.change(held, 2)
                return result

            self.assertIs(owner.tried(action), result)
            self.assertIs(owner.tried(action=seen.append), None)
            self.assertTrue(len(seen) == 2 and seen[0] is owner and seen[1] is owner)
            self.assertEqual(owner.changes, 2)

    def test_tried_takes_back_and_passes_on(self):
        for kind, owner in self.each():
            before, error = kind.told(owner), Stopped()

            def action(held):
                kind.change(held, 2)
                held.tried(lambda same: kind.change(same, 3))
                raise error

            with self.assertRaises(Stopped) as caught:
                owner.tried(action)
            self.assertIs(caught.exception, error)
            self.assertEqual(kind.told(owner), before)

    def test_attempts_within_attempts_at_random(self):
        for seed in range(40):
            for kind, owner in self.each():
                pick, free = Random(seed), list(range(2, 100))
                rows = [kind.told(owner)]
                for _ in range(5):
                    rows = self.attempt(kind, owner, rows, pick, free, owner.trial(), 0)
                while len(rows) > 1:
                    self.assertEqual(kind.told(owner), rows.pop())
                    owner.undo()
                self.assertEqual(kind.told(owner), rows[0])

    def attempt(self, kind, owner, rows, pick, free, trial, depth):
        """Rows of changes at random, within one another; all that was told after each change, at the end."""
        found = list(rows)
        try:
            with trial:
                for _ in range(pick.randint(0, 4)):
                    word = pick.choice(("change", "undo", "again", "new") if depth < 3 else ("change", "undo"))
                    if word == "change" and free:
                        kind.change(owner, free.pop(pick.randrange(len(free))))
                        found.append(kind.told(owner))
                    elif word == "undo" and len(found) > 1:
                        owner.undo()
                        found.pop()
                    elif word in ("again", "new"):
                        other = trial if word == "again" else owner.trial()
                        found = self.attempt(kind, owner, found, pick, free, other, depth + 1)
                    self.assertEqual(kind.told(owner), found[-1])
                if pick.random() < 0.5:
                    raise Wrong()
        except Wrong:
            found = rows
        self.assertEqual(kind.told(owner), found[-1])
        return found

    def test_nothing_to_take_back(self):
        for kind, owner in self.each():
            owner.undo()
            before = kind.told(owner)
            self.assertEqual(owner.changes, 0)
            self.assert_raised(NothingToUndo, {}, owner.undo)
            self.assertEqual(kind.told(owner), before)

    def test_what_gives_nothing_back(self):
        for kind, owner in self.each():
            self.assertIs(kind.change(owner, 2), None)
            self.assertIs(owner.undo(), None)

    def test_a_change_that_raised_cannot_be_taken_back(self):
        for kind, owner in self.each():
            kind.change(owner, 2)
            with self.assertRaises(kind.wrong):
                kind.change_wrongly(owner)
            owner.undo()
            self.assertEqual(kind.told(owner), kind.told(kind.make()))

    def test_long_rows_taken_back_one_by_one(self):
        for kind, owner in self.each():
            rows = [kind.told(owner)]
            for at in range(2, 100):
                kind.change(owner, at)
                rows.append(kind.told(owner))
                self.assertEqual(owner.changes, len(rows))
            self.assertEqual(len({repr(row) for row in rows}), len(rows))
            while len(rows) > 1:
                self.assertEqual(kind.told(owner), rows.pop())
                owner.undo()
            self.assertEqual(kind.told(owner), rows[0])


if __name__ == "__main__":
    unittest.main()

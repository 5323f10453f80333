"""Desks: shapes under names, with claims about them that hold after each change."""

from likepanes.claims import asked, is_claim, names_in
from likepanes.errors import Broken, InUse, InvalidClaim, InvalidIndex, InvalidName, UnknownName
from likepanes.kinds import is_index, is_name
from likepanes.shapes import check_shape
from likepanes.trials import History, Trial


class Desk:
    """Shapes under names and a row of claims, at first neither."""

    def __init__(self):
        # A state has a dict of the shapes by their names and the tuple of the claims.
        self._history = History(({}, ()))

    @property
    def titles(self):
        """The ascending tuple of the names."""
        return tuple(sorted(list(self._history.states[-1][0])))

    @property
    def claims(self):
        """The tuple of the claims."""
        return self._history.states[-1][1]

    @property
    def changes(self):
        """How many changes can be taken back."""
        return len(self._history.states) - 1

    def __len__(self):
        return len(self._history.states[-1][0])

    def __bool__(self):
        return True

    def __contains__(self, x):
        return isinstance(x, str) and x in self._history.states[-1][0]

    def __iter__(self):
        raise TypeError("a desk is not iterated over")

    def __getitem__(self, at):
        if at not in self:
            raise UnknownName(at)
        return self._history.states[-1][0][at]

    def __setitem__(self, at, worth):
        if not is_name(at):
            raise InvalidName(at)
        check_shape(worth)
        shapes, claims = self._history.states[-1]
        shapes = {**shapes, at: worth}
        for index, claim in enumerate(claims):
            # The other claims go on to hold.
            if at in names_in(claim):
                check_claim(index, claim, shapes)
        self._history.change((shapes, claims))

    def remove(self, name):
        """Takes a shape away."""
        if name not in self:
            raise UnknownName(name)
        shapes, claims = self._history.states[-1]
        for index, claim in enumerate(claims):
            if name in names_in(claim):
                raise InUse(index)
        self._history.change(({other: shapes[other] for other in shapes if other != name}, claims))

    def claim(self, claim):
        """A claim more, behind the others."""
        if not is_claim(claim):
            raise InvalidClaim(claim)
        for name in names_in(claim):
            if name not in self:
                raise UnknownName(name)
        shapes, claims = self._history.states[-1]
        check_claim(len(claims), claim, shapes)
        self._history.change((shapes, claims + (claim,)))

    def lift(self, index):
        """Takes a claim away."""
        shapes, claims = self._history.states[-1]
        if not is_index(claims, index):
            raise InvalidIndex(index)
        self._history.change((shapes, claims[:index] + claims[index + 1:]))

    def undo(self):
        """Takes back the last change that has not been taken back."""
        self._history.undo()

    def trial(self):
        """For a `with` statement: if its rows end with an exception, the desk is as it was when they began."""
        return Trial(self, self._history)

    def tried(self, action):
        """Calls a function with the desk within such a statement and returns what it returns."""
        with self.trial() as desk:
            return action(desk)


def check_claim(index, claim, shapes):
    """Broken if a claim, which has this index, does not hold for a dict of the shapes by their names."""
    holds, shown = asked(claim, shapes)
    if not holds:
        raise Broken(index, shown)

"""Changes that can be taken back, one by one or all that an attempt made."""

from likepanes.errors import NothingToUndo


class History:
    """What something was like at first and after each change that has not been taken back.

    No such state is ever changed itself, so a copy of the list keeps them all.
    """

    def __init__(self, state):
        self.states = [state]

    def change(self, state):
        """One more state."""
        self.states.append(state)

    def undo(self):
        """Takes back the last change."""
        if len(self.states) == 1:
            raise NothingToUndo()
        self.states.pop()


class Kept:
    """States to go back to, and what was kept before, None if nothing was."""

    def __init__(self, states, before):
        self.states = states
        self.before = before


class Trial:
    """An attempt for a `with` statement: an exception takes the history of the owner back to where it began.

    What is kept is a row, since the rows of the statement may hold another one with the same attempt.
    """

    def __init__(self, owner, history):
        self._owner = owner
        self._history = history
        self._kept = None

    def __enter__(self):
        self._kept = Kept(list(self._history.states), self._kept)
        return self._owner

    def __exit__(self, kind, value, trace):
        if kind is not None:
            self._history.states = self._kept.states
        self._kept = self._kept.before

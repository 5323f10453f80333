"""Benches: a square of width and height 1 that is filled pane by pane."""

from likepanes.errors import InvalidIndex, InvalidNumber, InvalidWay, Outside, Overlaps
from likepanes.kinds import is_index
from likepanes.numbers import check_number, number_of, opposite, sign, total
from likepanes.order import comes_before, stretches
from likepanes.panes import area_of, edges_of, is_way
from likepanes.roots import FIRST_BITS
from likepanes.shapes import check_shape
from likepanes.trials import History, Trial


class Bench:
    """A square to be filled with panes of a shape, at first without panes."""

    def __init__(self, shape):
        check_shape(shape)
        self._shape = shape
        # A state has the panes, the edges of each one as stretches, and the area that is left.
        self._history = History(((), (), number_of(shape, (1, 1))))

    @property
    def shape(self):
        """The shape."""
        return self._shape

    @property
    def panes(self):
        """The tuple of the quadruples, in the order in which they were put there."""
        return self._history.states[-1][0]

    @property
    def left(self):
        """The area that is left, a number."""
        return self._history.states[-1][2]

    @property
    def is_full(self):
        """Whether no area is left."""
        return not any([part != 0 for part in self._history.states[-1][2][1:]])

    @property
    def changes(self):
        """How many changes can be taken back."""
        return len(self._history.states) - 1

    def put(self, x, y, side, way):
        """Puts a pane there."""
        check_pane(self._shape, x, y, side, way)
        pane = (x, y, side, way)
        edges = edges_of(self._shape, pane)
        if not lie_inside(self._shape, edges):
            raise Outside()
        panes, boxes, left = self._history.states[-1]
        box = stretches(self._shape, edges, FIRST_BITS)
        for index, other in enumerate(boxes):
            if meet(self._shape, box, other):
                raise Overlaps(index)
        taken = opposite(self._shape, area_of(self._shape, side))
        self._history.change((panes + (pane,), boxes + (box,), total(self._shape, left, taken)))

    def take(self, index):
        """Takes a pane away."""
        panes, boxes, left = self._history.states[-1]
        if not is_index(panes, index):
            raise InvalidIndex(index)
        freed = total(self._shape, left, area_of(self._shape, panes[index][2]))
        self._history.change((panes[:index] + panes[index + 1:], boxes[:index] + boxes[index + 1:], freed))

    def undo(self):
        """Takes back the last change that has not been taken back."""
        self._history.undo()

    def trial(self):
        """For a `with` statement: if its rows end with an exception, the bench is as it was when they began."""
        return Trial(self, self._history)

    def tried(self, action):
        """Calls a function with the bench within such a statement and returns what it returns."""
        with self.trial() as bench:
            return action(bench)


def check_pane(shape, x, y, side, way):
    """The first error, if there is one, of what is to be put as a pane, any values."""
    for number in (x, y, side):
        check_number(shape, number)
    if sign(shape, side) <= 0:
        raise InvalidNumber(side)
    if not is_way(way):
        raise InvalidWay(way)


def lie_inside(shape, edges):
    """Whether a pane with these edges lies in the square."""
    left, low, right, top = edges
    unit = number_of(shape, (1, 1))
    gaps = [left, low] + [total(shape, unit, opposite(shape, edge)) for edge in (right, top)]
    return all([sign(shape, gap) >= 0 for gap in gaps])


def meet(shape, one, other):
    """Whether two panes, told by their edges as stretches, have an inner point in common."""
    pairs = [(one[0], other[2]), (other[0], one[2]), (one[1], other[3]), (other[1], one[3])]
    return all([comes_before(shape, start, end) for start, end in pairs])

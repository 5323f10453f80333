"""Cuttings: squares filled with panes, and what tells whether panes fill a rectangle."""

from likepanes.errors import InvalidCutting, NotPositive, TooMany
from likepanes.limits import MOST_PANES
from likepanes.numbers import check_number, number_of, opposite, product, root, sign, total
from likepanes.order import boxes_of
from likepanes.panes import LYING, STANDING, edges_of, is_pane, is_row_of_panes, size_of
from likepanes.shapes import check_shape
from likepanes.writing import written


def cut_square(shape):
    """Any cutting that fills the rectangle of width and height 1, None if none does."""
    many = panes_in(shape)
    if many is None:
        return None
    if many > MOST_PANES:
        raise TooMany(MOST_PANES)
    panes, x, y = [], number_of(shape, (0, 1)), number_of(shape, (0, 1))
    width = height = number_of(shape, (1, 1))
    # What is left is as wide as high times c r + 1 / .. at first, then as high as wide, and so on in turn.
    for at, (top, bottom) in enumerate(written(shape)):
        if at % 2 == 0:
            side = product(shape, height, number_of(shape, (1, bottom)))
            panes.extend(grid(shape, (x, y, side, LYING), top, bottom))
            x, width = shortened(shape, x, width, times(shape, size_of(shape, side, LYING)[0], top))
        else:
            side = product(shape, width, number_of(shape, (1, bottom)))
            panes.extend(grid(shape, (x, y, side, STANDING), bottom, top))
            y, height = shortened(shape, y, height, times(shape, size_of(shape, side, STANDING)[1], top))
    return tuple(panes)


def panes_in(shape):
    """How many panes the told cutting has, None if there is none."""
    fractions = written(shape)
    return None if fractions is None else sum([top * bottom for top, bottom in fractions])


def is_cutting(shape, panes, width, height):
    """Whether panes, any value, is a cutting of the shape that fills this rectangle."""
    check_shape(shape)
    check_number(shape, width)
    check_number(shape, height)
    if sign(shape, width) <= 0 or sign(shape, height) <= 0:
        raise NotPositive()
    if not is_row_of_panes(shape, panes):
        return False
    return are_corners_even(shape, panes, width, height) and have_area(shape, panes, product(shape, width, height))


def clash(shape, panes):
    """The least pair of indexes of panes with an inner point in common, None if there is none."""
    check_shape(shape)
    if not isinstance(panes, tuple) or len(panes) == 0:
        raise InvalidCutting(None)
    for at, pane in enumerate(panes):
        if at >= MOST_PANES or not is_pane(shape, pane):
            raise InvalidCutting(at)
    boxes = boxes_of(shape, panes)
    for at, box in enumerate(boxes):
        for place in range(at + 1, len(boxes)):
            if overlap(box, boxes[place]):
                return at, place
    return None


def overlap(one, other):
    """Whether two boxes, told by their left, lower, right and upper edges, have an inner point in common."""
    return one[0] < other[2] and other[0] < one[2] and one[1] < other[3] and other[1] < one[3]


def are_corners_even(shape, panes, width, height):
    """Whether in each point evenly many corners of panes and of the rectangle meet.

    Then each point of the rectangle that is on no edge lies in an odd number of panes, and each other one in an even
    number. If the areas together are that of the rectangle, too, these numbers are nowhere but 1 and 0.
    """
    nought = number_of(shape, (0, 1))
    odd = {}
    for left, low, right, top in [(nought, nought, width, height)] + [edges_of(shape, pane) for pane in panes]:
        for corner in ((left, low), (left, top), (right, low), (right, top)):
            odd[corner] = not odd.get(corner, False)
    return not any(odd.values())


def have_area(shape, panes, area):
    """Whether the areas of panes together are this one."""
    squares = number_of(shape, (0, 1))
    for pane in panes:
        squares = total(shape, squares, product(shape, pane[2], pane[2]))
    return product(shape, squares, root(shape)) == area


def grid(shape, pane, across, upward):
    """So many panes like this one side by side, and so many upon one another; it is the first one from left below."""
    x, y, side, way = pane
    width, height = size_of(shape, side, way)
    lefts = [total(shape, x, times(shape, width, at)) for at in range(across)]
    lows = [total(shape, y, times(shape, height, at)) for at in range(upward)]
    return [(left, low, side, way) for left in lefts for low in lows]


def times(shape, number, many):
    """An integer times a number."""
    return product(shape, number, number_of(shape, (many, 1)))


def shortened(shape, start, length, part):
    """Where a stretch begins and how long it is when a part of it is taken away at its beginning."""
    return total(shape, start, part), total(shape, length, opposite(shape, part))

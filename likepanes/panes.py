"""Single panes: what counts as one, how wide and high it is, and where it ends."""

from likepanes.numbers import is_number, product, root, sign, total

LYING = "lying"
STANDING = "standing"


def is_way(value):
    """Whether a value, any one, is a way in which a pane can be."""
    return isinstance(value, str) and value in (LYING, STANDING)


def is_pane(shape, value):
    """Whether a value, any one, is a quadruple of a cutting of the shape."""
    if not isinstance(value, tuple) or len(value) != 4:
        return False
    if not all([is_number(shape, number) for number in value[:3]]):
        return False
    return sign(shape, value[2]) > 0 and is_way(value[3])


def is_row_of_panes(shape, value):
    """Whether a value, any one, is a cutting of the shape, whatever it fills."""
    if not isinstance(value, tuple) or len(value) == 0:
        return False
    return all([is_pane(shape, pane) for pane in value])


def size_of(shape, side, way):
    """The width and the height of a pane."""
    long = product(shape, root(shape), side)
    return (long, side) if way == LYING else (side, long)


def area_of(shape, side):
    """The area of a pane."""
    return product(shape, root(shape), product(shape, side, side))


def edges_of(shape, pane):
    """The left, lower, right and upper edge of a pane, as numbers."""
    x, y, side, way = pane
    width, height = size_of(shape, side, way)
    return x, y, total(shape, x, width), total(shape, y, height)

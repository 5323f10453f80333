"""Numbers of a shape by their order, so that edges of panes can be compared as integers."""

from likepanes.numbers import ends, opposite, sign, total
from likepanes.panes import edges_of
from likepanes.roots import FIRST_BITS


def boxes_of(shape, panes):
    """The edges of each pane, every edge by its place among all the edges: as they lie, so do these."""
    rows = [edges_of(shape, pane) for pane in panes]
    places = places_of(shape, [edge for row in rows for edge in row])
    return [tuple([places[edge] for edge in row]) for row in rows]


def places_of(shape, numbers):
    """A dict that tells of each number which place it has among the different ones, in ascending order."""
    different = list({number: True for number in numbers})
    bits = FIRST_BITS
    rows = sorted(stretches(shape, different, bits))
    while not are_parted(rows):
        bits *= 2
        rows = sorted(stretches(shape, different, bits))
    return {row[2]: place for place, row in enumerate(rows)}


def stretches(shape, numbers, bits):
    """The list of the stretches of numbers; they get shorter with more bits."""
    near = shape.floor_at(bits)
    return [stretch(shape, number, near, bits) for number in numbers]


def stretch(shape, number, near, bits):
    """Two integers between which the number times 2 to the power of bits lies, and the number."""
    low, high = ends(number, near, bits)
    bottom = number[0] << (bits * (shape.degree - 1))
    return (low << bits) // bottom, -((-high << bits) // bottom), number


def comes_before(shape, one, other):
    """Whether the number of the one stretch is less than that of the other one."""
    if one[1] < other[0] or other[1] < one[0]:
        return one[1] < other[0]
    return sign(shape, total(shape, one[2], opposite(shape, other[2]))) < 0


def are_parted(rows):
    """Whether no stretch begins before the end of the one ahead of it; different numbers are then in order."""
    return all([row[1] <= other[0] for row, other in zip(rows, rows[1:])])

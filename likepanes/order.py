"""Numbers of a shape by their order, so that edges of panes can be compared as integers."""

from likepanes.numbers import ends
from likepanes.panes import edges_of
from likepanes.roots import FIRST_BITS


def boxes_of(shape, panes):
    """The edges of each pane, every edge by its place among all the edges: as they lie, so do these."""
    rows = [edges_of(shape, pane) for pane in panes]
    places = places_of(shape, [edge for row in rows for edge in row])
    return [tuple([places[edge] for edge in row]) for row in rows]


def places_of(shape, numbers):
    """A dict that tells of each number which place it has among the different ones, in ascending order."""
    different = list({number: True for number in numbers})
    bits = FIRST_BITS
    rows = sorted([stretch(shape, number, shape.floor_at(bits), bits) for number in different])
    while not are_parted(rows):
        bits *= 2
        near = shape.floor_at(bits)
        rows = sorted([stretch(shape, number, near, bits) for number in different])
    return {row[2]: place for place, row in enumerate(rows)}


def stretch(shape, number, near, bits):
    """Two integers between which the number times 2 to the power of bits lies, and the number."""
    low, high = ends(number, near, bits)
    bottom = number[0] << (bits * (shape.degree - 1))
    return (low << bits) // bottom, -((-high << bits) // bottom), number


def are_parted(rows):
    """Whether no stretch begins before the end of the one ahead of it; different numbers are then in order."""
    return all([row[1] <= other[0] for row, other in zip(rows, rows[1:])])

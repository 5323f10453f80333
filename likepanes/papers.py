"""Papers: claims for the checker, each with a paper that it accepts."""

from likepanes.cutting import cut_square
from likepanes.numbers import number_of
from likepanes.shapes import alike
from likepanes.trees import laid, ratio
from likepanes.writing import written


def paper_of_shape(shape):
    """That a square can be filled by a shape, with a cutting, or that it cannot."""
    panes = cut_square(shape)
    word = "never" if panes is None else "fills"
    return (word, shape.text), panes


def paper_of_writing(shape):
    """By which fractions a shape is written out, None if it is not."""
    fractions = written(shape)
    return None if fractions is None else (("written", shape.text, fractions), None)


def paper_of_tree(shape, tree):
    """That a tree fills the square, with the cutting by it, None if it does not."""
    if ratio(shape, tree) != number_of(shape, (1, 1)):
        return None
    return ("tree", shape.text, tree), laid(shape, tree)


def paper_of_likeness(one, other):
    """That two shapes have the same panes, None if they do not."""
    return (("alike", one.text, other.text), None) if alike(one, other) else None

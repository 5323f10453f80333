"""The checker: whether a paper is one for a claim, whoever wrote it."""

from likepanes.cutting import is_cutting
from likepanes.kinds import is_fraction
from likepanes.nodes import is_tree
from likepanes.numbers import number_of
from likepanes.shapes import Shape, alike, told_by
from likepanes.trees import laid
from likepanes.writing import fills, written


def accepts(claim, paper):
    """Whether two values, any ones, are a claim for the checker and a paper for it."""
    if not isinstance(claim, tuple) or not 2 <= len(claim) <= 3 or told_by(claim[1]) is None:
        return False
    word, shape = claim[0], Shape(claim[1])
    if not isinstance(word, str):
        return False
    if len(claim) == 2:
        return accepts_alone(word, shape, paper)
    return accepts_with(word, shape, claim[2], paper)


def accepts_alone(word, shape, paper):
    """Whether a paper is one for the claim of a word, any one, about a shape alone."""
    if word == "fills":
        return fills_square(shape, paper)
    return word == "never" and paper is None and not fills(shape)


def accepts_with(word, shape, value, paper):
    """Whether a paper is one for the claim of a word about a shape and a value, any ones."""
    if word == "tree":
        return is_tree(value) and fills_square(shape, paper) and paper == laid(shape, value)
    if paper is not None:
        return False
    if word == "written":
        return are_fractions(value) and value == written(shape)
    return word == "alike" and told_by(value) is not None and alike(shape, Shape(value))


def fills_square(shape, paper):
    """Whether a paper, any value, is a cutting that fills the rectangle of width and height 1."""
    unit = number_of(shape, (1, 1))
    return is_cutting(shape, paper, unit, unit)


def are_fractions(value):
    """Whether a value, any one, is a tuple of fractions."""
    return isinstance(value, tuple) and all([is_fraction(part) for part in value])

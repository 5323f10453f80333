"""Claims of a desk: what counts as one, and whether it holds."""

from likepanes.few import fewest
from likepanes.kinds import is_integer
from likepanes.limits import MOST_FEW
from likepanes.nodes import is_tree
from likepanes.numbers import number_of
from likepanes.shapes import alike
from likepanes.trees import ratio
from likepanes.writing import fills, steps, written

# How many elements a claim with each of the words has.
LENGTHS = {"fills": 2, "never": 2, "few": 3, "tree": 3, "alike": 3}


def is_claim(value):
    """Whether a value, any one, is a claim of a desk that has all the names, whatever they are."""
    if not isinstance(value, tuple) or len(value) == 0 or not isinstance(value[0], str):
        return False
    word = value[0]
    if len(value) != LENGTHS.get(word):
        return False
    if word == "few":
        return is_integer(value[2]) and 1 <= value[2] <= MOST_FEW
    return word != "tree" or is_tree(value[2])


def names_in(claim):
    """The names of the shapes that a claim is about: a tuple of one or two."""
    return claim[1:] if claim[0] == "alike" else claim[1:2]


def asked(claim, shapes):
    """Whether a claim holds, for a dict of the shapes by their names, and what shows it if it does not."""
    word, shape = claim[0], shapes[claim[1]]
    if word == "fills":
        return fills(shape), steps(shape)
    if word == "never":
        return not fills(shape), written(shape)
    if word == "few":
        least = fewest(shape)
        return least is not None and least <= claim[2], least
    if word == "tree":
        value = ratio(shape, claim[2])
        return value == number_of(shape, (1, 1)), value
    return alike(shape, shapes[claim[2]]), None

"""What counts as an integer, an index, a name, a fraction, an equation."""

from math import gcd

from likepanes.limits import MOST_DEGREE, MOST_TERM

MOST_LETTERS = 8


def is_integer(value):
    """Whether a value, any one, is an integer other than True and False."""
    return isinstance(value, int) and not isinstance(value, bool)


def are_integers(values):
    """Whether all of a tuple are integers."""
    return all([is_integer(value) for value in values])


def is_index(row, value):
    """Whether a value, any one, is an index of an element of a tuple."""
    return is_integer(value) and 0 <= value < len(row)


def is_name(value):
    """Whether a value, any one, is a name: one to eight letters from a to z."""
    if not isinstance(value, str) or len(value) > MOST_LETTERS:
        return False
    return value.isascii() and value.isalpha() and value.islower()


def is_fraction(value):
    """Whether a value, any one, is a fraction."""
    if not isinstance(value, tuple) or len(value) != 2 or not are_integers(value):
        return False
    top, bottom = value
    return bottom >= 1 and gcd(top, bottom) == 1


def is_below(one, other):
    """Whether the one fraction is less than the other one."""
    return one[0] * other[1] < other[0] * one[1]


def is_term(value):
    """Whether a value, any one, may stand in an equation."""
    return is_integer(value) and -MOST_TERM <= value <= MOST_TERM


def wrong_term(equation):
    """The index of the first term, in a tuple of two or more, that an equation cannot have there, None if none."""
    for at, term in enumerate(equation):
        if at > MOST_DEGREE or not is_term(term):
            return at
    last = len(equation) - 1
    return last if equation[last] == 0 else None

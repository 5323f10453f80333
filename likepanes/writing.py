"""Shapes written out as fractions of fractions: 1 = c1 r + 1 / (c2 r + 1 / (.. + 1 / (cn r)))."""

from math import gcd

from likepanes.errors import InvalidFraction
from likepanes.kinds import is_fraction
from likepanes.numbers import number_of, product, quotient, root, total
from likepanes.shapes import check_shape
from likepanes.terms import combined, trimmed

MOST_FRACTIONS = 12


def written(shape):
    """The tuple of the fractions by which a shape is written out, None if it is not."""
    found = steps(shape)
    return found if len(found) == shape.degree else None


def fills(shape):
    """Whether a square can be filled by a shape."""
    return written(shape) is not None


def steps(shape):
    """The tuple of the quotients above 0, up to the end or to the first step that cannot be gone."""
    check_shape(shape)
    upper, lower = halves(shape.equation)
    found = []
    while can_go(upper, lower):
        common = gcd(upper[-1], lower[-1])
        top, bottom = abs(upper[-1]) // common, abs(lower[-1]) // common
        found.append((top, bottom))
        # Both are multiplied by bottom, which keeps them whole and leaves their later quotients as they are.
        upper, lower = tuple([bottom * term for term in lower]), combined(bottom, upper, top, lower, 1)
    return tuple(found)


def worth(shape, fractions):
    """c1 r + 1 / (c2 r + 1 / ..) as a number."""
    check_shape(shape)
    if not are_coefficients(fractions):
        raise InvalidFraction(fractions)
    r, unit = root(shape), number_of(shape, (1, 1))
    value = None
    for fraction in fractions[::-1]:
        part = product(shape, number_of(shape, fraction), r)
        value = part if value is None else total(shape, part, quotient(shape, unit, value))
    return value


def are_coefficients(value):
    """Whether a value, any one, is a tuple of one to 12 fractions above 0."""
    if not isinstance(value, tuple) or not 1 <= len(value) <= MOST_FRACTIONS:
        return False
    return all([is_fraction(part) and part[0] > 0 for part in value])


def halves(equation):
    """The terms with x to the degree, the degree less 2, .., and the others times -1, each as a sum of powers."""
    last = len(equation) - 1
    upper = [term if (last - at) % 2 == 0 else 0 for at, term in enumerate(equation)]
    lower = [-term if (last - at) % 2 == 1 else 0 for at, term in enumerate(equation)]
    return trimmed(upper), trimmed(lower)


def can_go(upper, lower):
    """Whether there is a step from two sums of powers: the quotient is above 0, and the degrees differ by one."""
    return len(lower) > 0 and len(upper) == len(lower) + 1 and upper[-1] * lower[-1] > 0

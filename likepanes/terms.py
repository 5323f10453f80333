"""Sums of powers with integers: (a, b, c) stands for a + b x + c x x, () for 0.

Each has its terms in a tuple without a 0 at its end.
"""

from math import gcd


def trimmed(terms):
    """The same sum without zeros at its end."""
    many = len(terms)
    while many > 0 and terms[many - 1] == 0:
        many -= 1
    return tuple(terms[:many])


def common_divisor(terms):
    """The greatest common divisor, 0 if there is nothing but zeros."""
    common = 0
    for term in terms:
        common = gcd(common, term)
    return common


def primitive(terms):
    """The same sum without the common divisor of its terms."""
    common = common_divisor(terms)
    return tuple([term // common for term in terms]) if common > 1 else terms


def negative(terms):
    """The sum times -1."""
    return tuple([-term for term in terms])


def derivative(terms):
    """The derivative."""
    return tuple([at * terms[at] for at in range(1, len(terms))])


def value_at(terms, top, bottom):
    """The value at top / bottom, times bottom to the power of the highest place; bottom is above 0."""
    value, scale = 0, 1
    for term in terms[::-1]:
        value = value * top + term * scale
        scale *= bottom
    return value


def multiplied(one, other):
    """The product."""
    result = [0] * (len(one) + len(other))
    for low, left in enumerate(one):
        for high, right in enumerate(other):
            result[low + high] += left * right
    return trimmed(result)


def combined(factor, one, weight, other, shift):
    """The one sum times factor less the other one times weight and x to the power of shift."""
    result = [0] * max(len(one), len(other) + shift)
    for at, term in enumerate(one):
        result[at] += factor * term
    for at, term in enumerate(other):
        result[at + shift] -= weight * term
    return trimmed(result)


def remainder(one, other):
    """What is left of the one sum after a division by the other one, times something above 0."""
    factor = abs(other[-1])
    while len(one) >= len(other):
        # The factor is not allowed to turn the sign, so the weight carries that of the divisor.
        weight = one[-1] if other[-1] > 0 else -one[-1]
        one = combined(factor, one, weight, other, len(one) - len(other))
    return primitive(one)


def divided(one, other):
    """The quotient with integers, None if there is none."""
    rest, found = list(one), []
    while len(rest) >= len(other):
        factor, left = divmod(rest[-1], other[-1])
        if left != 0:
            return None
        found.append(factor)
        shift = len(rest) - len(other)
        for at, term in enumerate(other):
            rest[shift + at] -= factor * term
        rest.pop()
    if any(rest):
        return None
    return tuple(found[::-1])

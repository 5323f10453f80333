"""Equations as products of least ones."""

from math import gcd, isqrt

from likepanes.terms import common_divisor, divided, negative, primitive, value_at


def is_least(equation):
    """Whether an equation is a least one."""
    if equation[-1] < 0 or common_divisor(equation) != 1:
        return False
    return least_factor(equation) == equation


def factors_of(equation):
    """The list of the different least equations, with terms of any size, whose roots an equation has."""
    rest = primitive(equation)
    if rest[-1] < 0:
        rest = negative(rest)
    found = []
    while len(rest) > 1:
        factor = least_factor(rest)
        if factor not in found:
            found.append(factor)
        rest = divided(rest, factor)
    return found


def least_factor(terms):
    """A factor of the least degree from 1 on; the terms have no common divisor, and the last one is above 0.

    Of two factors of a degree up to 5 one has the degree 1 or 2, so nothing above needs to be looked for.
    """
    if len(terms) == 2:
        return terms
    found = linear_factor(terms)
    if found is None and len(terms) >= 5:
        found = quadratic_factor(terms)
    return terms if found is None else found


def divisors(number):
    """The divisors above 0 of a number other than 0."""
    return [low for low in range(1, abs(number) + 1) if number % low == 0]


def linear_factor(terms):
    """A factor of degree 1, None if there is none."""
    if terms[0] == 0:
        return (0, 1)
    bottoms = divisors(terms[-1])
    for top in divisors(terms[0]):
        for bottom in bottoms:
            if gcd(top, bottom) != 1:
                continue
            for side in (top, -top):
                if value_at(terms, side, bottom) == 0:
                    return (-side, bottom)
    return None


def quadratic_factor(terms):
    """A factor of degree 2 of terms of degree 4 or 5 that have none of degree 1, None if there is none."""
    lasts = divisors(terms[-1])
    for size in divisors(terms[0]):
        for last in lasts:
            for first in (size, -size):
                for middle in middles(terms, first, last):
                    factor = (first, middle, last)
                    if divided(terms, factor) is not None:
                        return factor
    return None


def middles(terms, first, last):
    """The few integers that can stand between first and last in a factor of degree 2.

    The two lowest and the highest terms of the other factor follow from these three. Put into the third term of
    the product they leave an equation of degree 2 for the middle, whose leading term is never 0.
    """
    lowest, highest = terms[0] // first, terms[-1] // last
    if len(terms) == 5:
        constant = first * (terms[2] - first * highest - last * lowest)
        return whole_roots(constant, -terms[1], lowest)
    constant = first * (last * (terms[2] - last * lowest) - first * terms[4])
    return whole_roots(constant, first * first * highest - last * terms[1], last * lowest)


def whole_roots(constant, linear, square):
    """The integers x with constant + linear x + square x x = 0."""
    inner = linear * linear - 4 * square * constant
    if inner < 0:
        return []
    width = isqrt(inner)
    if width * width != inner:
        return []
    tops = (width - linear, -width - linear)
    return [top // (2 * square) for top in tops if top % (2 * square) == 0]

"""Numbers of a shape, without any rounding."""

from likepanes.errors import InvalidFraction, InvalidNumber, InvalidScale, NoQuotient
from likepanes.kinds import are_integers, is_fraction, is_integer
from likepanes.limits import MOST_SCALE
from likepanes.roots import FIRST_BITS
from likepanes.shapes import check_shape
from likepanes.terms import combined, common_divisor, multiplied, negative, trimmed, value_at


def number_of(shape, fraction):
    """A fraction as a number."""
    check_shape(shape)
    if not is_fraction(fraction):
        raise InvalidFraction(fraction)
    return lowest(shape, fraction[1], (fraction[0],))


def root(shape):
    """The shape itself as a number."""
    check_shape(shape)
    return folded(shape, 1, (0, 1))


def total(shape, first, second):
    """The sum."""
    check_shape(shape)
    check_number(shape, first)
    check_number(shape, second)
    # The weight is below 0 since what has it is taken away.
    return lowest(shape, first[0] * second[0], combined(second[0], first[1:], -first[0], second[1:], 0))


def product(shape, first, second):
    """The product."""
    check_shape(shape)
    check_number(shape, first)
    check_number(shape, second)
    return folded(shape, first[0] * second[0], multiplied(first[1:], second[1:]))


def quotient(shape, first, second):
    """The quotient."""
    check_shape(shape)
    check_number(shape, first)
    check_number(shape, second)
    divisor = trimmed(second[1:])
    if divisor == ():
        raise NoQuotient()
    terms, bottom = reciprocal(shape.equation, divisor)
    terms = multiplied(multiplied(first[1:], terms), (second[0],))
    return folded(shape, first[0] * bottom, terms)


def opposite(shape, number):
    """The number times -1."""
    check_shape(shape)
    check_number(shape, number)
    return (number[0],) + negative(number[1:])


def sign(shape, number):
    """-1, 0 or 1."""
    check_shape(shape)
    check_number(shape, number)
    if trimmed(number[1:]) == ():
        return 0
    bits = FIRST_BITS
    low, high = ends(number, shape.floor_at(bits), bits)
    while low <= 0 <= high:
        bits *= 2
        low, high = ends(number, shape.floor_at(bits), bits)
    return 1 if low > 0 else -1


def floor_of(shape, number, scale):
    """The greatest integer that is not above the number times scale."""
    check_shape(shape)
    check_number(shape, number)
    if not is_integer(scale) or not 1 <= scale <= MOST_SCALE:
        raise InvalidScale(scale)
    bits = FIRST_BITS
    # Both ends agree in the end: a number is an integer only without r, and then its ends are the same.
    while True:
        low, high = ends(number, shape.floor_at(bits), bits)
        bottom = number[0] << (bits * (shape.degree - 1))
        least = low * scale // bottom
        if least == high * scale // bottom:
            return least
        bits *= 2


def is_number(shape, value):
    """Whether a value, any one, is a number of a shape."""
    if not isinstance(value, tuple) or len(value) != shape.degree + 1 or not are_integers(value):
        return False
    return value[0] >= 1 and common_divisor(value) == 1


def check_number(shape, value):
    """InvalidNumber if a value, any one, is no number of a shape."""
    if not is_number(shape, value):
        raise InvalidNumber(value)


def lowest(shape, bottom, terms):
    """The one way to write a sum of powers below the degree, divided by an integer other than 0."""
    padded = [bottom, *terms] + [0] * (shape.degree - len(terms))
    common = common_divisor(padded)
    if bottom < 0:
        common = -common
    return tuple([part // common for part in padded])


def folded(shape, bottom, terms):
    """The one way to write a sum of any powers, divided by an integer other than 0."""
    equation = shape.equation
    while len(terms) > shape.degree:
        terms = combined(equation[-1], terms, terms[-1], equation, len(terms) - len(equation))
        bottom *= equation[-1]
    return lowest(shape, bottom, terms)


def reciprocal(equation, divisor):
    """Terms and an integer other than 0: the terms times the divisor are the integer, by the equation.

    This is Euclid's way: one is always left times the divisor, other is right times it.
    """
    one, left, other, right = equation, (), divisor, (1,)
    while len(other) > 1:
        while len(one) >= len(other):
            factor, weight, shift = other[-1], one[-1], len(one) - len(other)
            one = combined(factor, one, weight, other, shift)
            left = combined(factor, left, weight, right, shift)
        common = common_divisor(one + left)
        smaller = tuple([term // common for term in one])
        multiple = tuple([term // common for term in left])
        one, left, other, right = other, right, smaller, multiple
    return right, other[0]


def ends(number, near, bits):
    """Two integers between which the number lies, all times its divisor and 2 to the power of bits times the degree
    less one: sums of what is least and of what is greatest while the shape, times 2 to the power of bits, lies
    between near, its floor, and the integer above.
    """
    bottom = 1 << bits
    plus = [max(term, 0) for term in number[1:]]
    minus = [max(-term, 0) for term in number[1:]]
    low = value_at(plus, near, bottom) - value_at(minus, near + 1, bottom)
    high = value_at(plus, near + 1, bottom) - value_at(minus, near, bottom)
    return low, high

"""What several tests use: shapes whose places are known, values of other kinds, and a slow way to reckon."""

from fractions import Fraction
from math import gcd
from random import Random

from likepanes.shapes import Shape

# Texts with a stretch in which the shape is the only root of its equation.
STRETCHES = (
    ("root 0 of -1 1", (1, 1), (1, 1)),
    ("root 0 of -3 2", (1, 1), (2, 1)),
    ("root 0 of -1 1000", (0, 1), (1, 1)),
    ("root 0 of -1000 1", (999, 1), (1001, 1)),
    ("root 1 of 2 -4 1", (3, 1), (4, 1)),
    ("root 0 of 2 -4 1", (1, 2), (1, 1)),
    ("root 1 of -2 0 1", (1, 1), (2, 1)),
    ("root 1 of -1 -1 1", (1, 1), (2, 1)),
    ("root 1 of -1 1000 3", (0, 1), (1, 1)),
    ("root 0 of -2 0 0 1", (1, 1), (2, 1)),
    ("root 2 of 1 -3 0 1", (3, 2), (2, 1)),
    ("root 1 of 1 -3 0 1", (0, 1), (1, 2)),
    ("root 0 of -1 1 -2 1", (1, 1), (2, 1)),
    ("root 3 of 1 0 -10 0 1", (3, 1), (4, 1)),
    ("root 2 of 1 0 -10 0 1", (0, 1), (1, 1)),
    ("root 1 of -7 0 0 0 3", (1, 1), (2, 1)),
    ("root 0 of -2 0 0 0 0 1", (1, 1), (2, 1)),
    ("root 2 of 1 -5 0 0 0 1", (1, 1), (2, 1)),
    ("root 1 of 1 -5 0 0 0 1", (0, 1), (1, 1)),
    ("root 0 of -971 1000 -3 1 0 997", (1, 2), (1, 1)),
)

# Values that are no integers, tuples, strings or shapes that could be right anywhere.
ODD_VALUES = (
    None, True, False, "", "x", "root", b"root 0 of -1 1", [], {}, {"a": 1}, {1, 2}, frozenset(), object(), len, int,
    [1, 1], [2, -4, 1], ["root 0 of -1 1"], (), ("x",), (None,), ((),), ((((((((((((),),),),),),),),),),),),
    -1, 0, 10 ** 400, -(10 ** 399), range(3), (1, 1).count, ValueError("x"), NotImplemented, ...,
)


def shapes():
    """Each of the texts as a shape, with its stretch."""
    return [(Shape(text), low, high) for text, low, high in STRETCHES]


def narrowed(shape, low, high, bits):
    """Two Fractions about the shape that differ by 2 ** -bits, found by halving; the same one if it is a fraction."""
    if shape.degree == 1:
        middle = Fraction(-shape.equation[0], shape.equation[1])
        return middle, middle
    bottom = 1 << bits
    low, high = low[0] * bottom // low[1], -(-high[0] * bottom // high[1])
    start = scaled_value(shape.equation, low, bits) > 0
    assert start != (scaled_value(shape.equation, high, bits) > 0)
    while high - low > 1:
        middle = (low + high) // 2
        if (scaled_value(shape.equation, middle, bits) > 0) == start:
            low = middle
        else:
            high = middle
    return Fraction(low, bottom), Fraction(high, bottom)


def scaled_value(terms, place, bits):
    """The sum of powers at place / 2 ** bits, times something above 0."""
    degree = len(terms) - 1
    return sum(term * place ** at << bits * (degree - at) for at, term in enumerate(terms))


def worth(number, places):
    """The least and the greatest Fraction that a number can be, with the shape between two places above 0."""
    low, high = places
    least = sum((min(term * low ** at, term * high ** at) for at, term in enumerate(number[1:])), Fraction(0))
    most = sum((max(term * low ** at, term * high ** at) for at, term in enumerate(number[1:])), Fraction(0))
    return least / number[0], most / number[0]


def is_written_once(shape, number):
    """Whether a value is written as a number of the shape must be."""
    if type(number) is not tuple or len(number) != shape.degree + 1:
        return False
    common = 0
    for part in number:
        if type(part) is not int:
            return False
        common = gcd(common, part)
    return number[0] >= 1 and common == 1


def lowest(parts):
    """The number with these parts, which may have a common divisor; the first one is above 0."""
    common = 0
    for part in parts:
        common = gcd(common, part)
    return tuple(part // common for part in parts)


def some_numbers(shape, many, digits, seed):
    """Numbers of a shape with parts of up to so many digits; the first two are 0 and 1."""
    pick, most = Random(seed), 10 ** digits - 1
    found = [(1,) + (0,) * shape.degree, (1, 1) + (0,) * (shape.degree - 1)]
    while len(found) < many:
        found.append(lowest([pick.randint(1, most)] + [pick.randint(-most, most) for _ in range(shape.degree)]))
    return found


def times(one, other):
    """The product of two sums of powers."""
    result = [0] * (len(one) + len(other) - 1)
    for low, left in enumerate(one):
        for high, right in enumerate(other):
            result[low + high] += left * right
    return tuple(result)

"""What several tests use: shapes whose places are known, values of other kinds, and a slow way to reckon."""

from fractions import Fraction
from inspect import signature
from itertools import combinations, product, zip_longest
from math import gcd, lcm
from random import Random

from likepanes.errors import InvalidText
from likepanes.shapes import Shape

# Texts with a stretch in which the shape is the only root of its equation.
STRETCHES = (
    ("root 0 of -1 1", (1, 1), (1, 1)),
    ("root 0 of -3 2", (1, 1), (2, 1)),
    ("root 0 of -1 1000", (0, 1), (1, 1)),
    ("root 0 of -1000 1", (999, 1), (1001, 1)),
    ("root 1 of 2 -4 1", (3, 1), (4, 1)),
    ("root 0 of 2 -4 1", (1, 2), (1, 1)),
    ("root 1 of -2 0 1", (1, 1), (2, 1)),
    ("root 1 of -1 -1 1", (1, 1), (2, 1)),
    ("root 1 of -1 1000 3", (0, 1), (1, 1)),
    ("root 0 of -2 0 0 1", (1, 1), (2, 1)),
    ("root 2 of 1 -3 0 1", (3, 2), (2, 1)),
    ("root 1 of 1 -3 0 1", (0, 1), (1, 2)),
    ("root 0 of -1 1 -2 1", (1, 1), (2, 1)),
    ("root 3 of 1 0 -10 0 1", (3, 1), (4, 1)),
    ("root 2 of 1 0 -10 0 1", (0, 1), (1, 1)),
    ("root 1 of -7 0 0 0 3", (1, 1), (2, 1)),
    ("root 0 of -2 0 0 0 0 1", (1, 1), (2, 1)),
    ("root 2 of 1 -5 0 0 0 1", (1, 1), (2, 1)),
    ("root 1 of 1 -5 0 0 0 1", (0, 1), (1, 1)),
    ("root 0 of -971 1000 -3 1 0 997", (1, 2), (1, 1)),
)

# Values that are no integers, tuples, strings or shapes that could be right anywhere.
ODD_VALUES = (
    None, True, False, "", "x", "root", b"root 0 of -1 1", [], {}, {"a": 1}, {1, 2}, frozenset(), object(), len, int,
    [1, 1], [2, -4, 1], ["root 0 of -1 1"], (), ("x",), (None,), ((),), ((((((((((((),),),),),),),),),),),),
    -1, 0, 10 ** 400, -(10 ** 399), range(3), (1, 1).count, ValueError("x"), NotImplemented, ...,
)


# Some of what is no number of a shape of degree 2.
WRONG_NUMBERS = (
    (1, 0), (1, 1, 0, 0), (2, 2, 0), (0, 1, 0), (-1, 1, 0), (True, 1, 0), (1, True, 0), [1, 1, 0], 1, "1", (1, "1", 0),
)


def panes(*rows):
    """Panes of a shape of degree 1, with places and sides as integers or Fractions."""
    return tuple((*[fraction(value) for value in row[:3]], row[3]) for row in rows)


def fraction(value):
    return Fraction(value).denominator, Fraction(value).numerator


# A square of 3 by 3 with four panes of the shape 2 around a fifth and a sixth one.
WHEEL = panes(
    (0, 0, 1, "lying"), (2, 0, 1, "standing"), (1, 2, 1, "lying"), (0, 1, 1, "standing"),
    (1, 1, Fraction(1, 2), "lying"), (1, Fraction(3, 2), Fraction(1, 2), "lying"),
)


def shapes():
    """Each of the texts as a shape, with its stretch."""
    return [(Shape(text), low, high) for text, low, high in STRETCHES]


def narrowed(shape, low, high, bits):
    """Two Fractions about the shape that differ by 2 ** -bits, found by halving; the same one if it is a fraction."""
    if shape.degree == 1:
        middle = Fraction(-shape.equation[0], shape.equation[1])
        return middle, middle
    bottom = 1 << bits
    low, high = low[0] * bottom // low[1], -(-high[0] * bottom // high[1])
    start = scaled_value(shape.equation, low, bits) > 0
    assert start != (scaled_value(shape.equation, high, bits) > 0)
    while high - low > 1:
        middle = (low + high) // 2
        if (scaled_value(shape.equation, middle, bits) > 0) == start:
            low = middle
        else:
            high = middle
    return Fraction(low, bottom), Fraction(high, bottom)


def scaled_value(terms, place, bits):
    """The sum of powers at place / 2 ** bits, times something above 0."""
    degree = len(terms) - 1
    return sum(term * place ** at << bits * (degree - at) for at, term in enumerate(terms))


def worth(number, places):
    """The least and the greatest Fraction that a number can be, with the shape between two places above 0."""
    low, high = places
    least = sum((min(term * low ** at, term * high ** at) for at, term in enumerate(number[1:])), Fraction(0))
    most = sum((max(term * low ** at, term * high ** at) for at, term in enumerate(number[1:])), Fraction(0))
    return least / number[0], most / number[0]


def is_written_once(shape, number):
    """Whether a value is written as a number of the shape must be."""
    if type(number) is not tuple or len(number) != shape.degree + 1:
        return False
    common = 0
    for part in number:
        if type(part) is not int:
            return False
        common = gcd(common, part)
    return number[0] >= 1 and common == 1


def lowest(parts):
    """The number with these parts, which may have a common divisor; the first one is above 0."""
    common = 0
    for part in parts:
        common = gcd(common, part)
    return tuple(part // common for part in parts)


def some_numbers(shape, many, digits, seed):
    """Numbers of a shape with parts of up to so many digits; the first two are 0 and 1."""
    pick, most = Random(seed), 10 ** digits - 1
    found = [(1,) + (0,) * shape.degree, (1, 1) + (0,) * (shape.degree - 1)]
    while len(found) < many:
        found.append(lowest([pick.randint(1, most)] + [pick.randint(-most, most) for _ in range(shape.degree)]))
    return found


def times(one, other):
    """The product of two sums of powers."""
    result = [0] * (len(one) + len(other) - 1)
    for low, left in enumerate(one):
        for high, right in enumerate(other):
            result[low + high] += left * right
    return tuple(result)


def real_places(terms, bits):
    """The floors of the real roots of a sum of powers, all times 2 ** bits, ascending, found between the roots of its
    derivative; roots that it has an even number of times are left out.
    """
    if len(terms) == 2:
        return [(-terms[0] << bits) // terms[1]]
    most = 1 + max(abs(term) for term in terms) << bits
    cuts = [-most, *real_places(tuple(at * term for at, term in enumerate(terms))[1:], bits), most]
    found = []
    for low, high in zip(cuts, cuts[1:]):
        start = scaled_value(terms, low, bits) > 0
        if start != (scaled_value(terms, high, bits) > 0):
            while high - low > 1:
                middle = (low + high) // 2
                low, high = (middle, high) if (scaled_value(terms, middle, bits) > 0) == start else (low, middle)
            found.append(low)
    return found


class Ruler:
    """Numbers of a shape in a way of the tests: as sums of powers with Fractions, and by their places."""

    BITS = 900

    def __init__(self, text):
        self.shape = Shape(text)
        words = text.split(" ")
        self.terms = tuple(int(word) for word in words[3:])
        self.degree = len(self.terms) - 1
        near = real_places(self.terms, self.BITS)[int(words[1])]
        low, high = Fraction(near, 1 << self.BITS), Fraction(near + 1, 1 << self.BITS)
        if self.degree == 1:
            low = high = Fraction(-self.terms[0], self.terms[1])
        self.powers = [(low ** at, high ** at) for at in range(self.degree)]
        self.nought, self.unit = self.of(0), self.of(1)
        self.r = self.folded((Fraction(0), Fraction(1)))
        self.at = low

    def of(self, fraction):
        return (Fraction(fraction),) + (Fraction(0),) * (self.degree - 1)

    def parts(self, number):
        assert is_written_once(self.shape, number), number
        return tuple(Fraction(term, number[0]) for term in number[1:])

    def number(self, parts):
        bottom = lcm(*(part.denominator for part in parts))
        return (bottom, *(int(part * bottom) for part in parts))

    def add(self, one, other):
        return tuple(left + right for left, right in zip(one, other))

    def less(self, one, other):
        return tuple(left - right for left, right in zip(one, other))

    def mul(self, one, other):
        return self.folded(times(one, other))

    def scaled(self, factor, one):
        return tuple(factor * part for part in one)

    def folded(self, terms):
        rest = list(terms)
        while len(rest) > self.degree:
            factor = Fraction(rest.pop()) / self.terms[-1]
            for at, term in enumerate(self.terms[:-1]):
                rest[len(rest) - self.degree + at] -= factor * term
        return tuple(rest) + (Fraction(0),) * (self.degree - len(rest))

    def inverse(self, one):
        """1 by a number: the weights with which its products with the powers of r make 1, by elimination."""
        columns, power = [], one
        for _ in range(self.degree):
            columns.append(power)
            power = self.mul(power, self.r) if self.degree > 1 else power
        rows = [[column[at] for column in columns] + [self.unit[at]] for at in range(self.degree)]
        for at in range(self.degree):
            pivot = next(row for row in range(at, self.degree) if rows[row][at] != 0)
            rows[at], rows[pivot] = rows[pivot], rows[at]
            rows[at] = [part / rows[at][at] for part in rows[at]]
            for row in range(self.degree):
                if row != at:
                    rows[row] = [part - rows[row][at] * other for part, other in zip(rows[row], rows[at])]
        return tuple(row[-1] for row in rows)

    def place(self, parts):
        """An integer close to the number times 2 ** (BITS - 200)."""
        pairs = [(part * low, part * high) for part, (low, high) in zip(parts, self.powers)]
        low, high = sum(min(pair) for pair in pairs), sum(max(pair) for pair in pairs)
        assert (high - low) * (1 << self.BITS - 200) < 1
        return int(low * (1 << self.BITS - 200))

    def sign(self, parts):
        if not any(parts):
            return 0
        place = self.place(parts)
        assert abs(place) > 1
        return 1 if place > 0 else -1

    def size(self, side, way):
        long = self.mul(self.r, side)
        return (long, side) if way == "lying" else (side, long)

    def edges(self, pane):
        x, y, side, way = pane
        assert way in ("lying", "standing") and type(pane) is tuple
        x, y, side = self.parts(x), self.parts(y), self.parts(side)
        assert self.sign(side) > 0
        width, height = self.size(side, way)
        return x, y, self.add(x, width), self.add(y, height)

    def boxes(self, rows):
        """The edges in rows as integers, in the same order and equal where they are."""
        known = {}
        for row in rows:
            for edge in row:
                known.setdefault(edge, self.place(edge))
        values = sorted(known.values())
        assert all(high - low > 2 for low, high in zip(values, values[1:]))
        return [[known[edge] for edge in row] for row in rows]

    def fills(self, panes, width, height):
        """Whether panes lie in a rectangle, one beside the other, and have its area."""
        edges = [self.edges(pane) for pane in panes]
        window, *boxes = self.boxes([(self.nought, self.nought, width, height), *edges])
        area = self.nought
        for left, low, right, top in edges:
            area = self.add(area, self.mul(self.less(right, left), self.less(top, low)))
        left, low, right, top = window
        inside = all(left <= box[0] and low <= box[1] and box[2] <= right and box[3] <= top for box in boxes)
        apart = not any(meet(one, other) for one, other in combinations(boxes, 2))
        return inside and apart and area == self.mul(width, height)


def meet(one, other):
    """Whether two boxes have an inner point in common."""
    return max(one[0], other[0]) < min(one[2], other[2]) and max(one[1], other[1]) < min(one[3], other[3])


CLOSINGS = {"[": "]", "(": ")"}


def tree_text(tree):
    """The text of a tree that is `l`, `s` or a tuple of a bracket and its parts."""
    if isinstance(tree, str):
        return tree
    return tree[0] + " ".join(tree_text(part) for part in tree[1:]) + CLOSINGS[tree[0]]


def tree_ratio(ruler, tree):
    """The width by the height of such a tree."""
    if isinstance(tree, str):
        return ruler.r if tree == "l" else ruler.inverse(ruler.r)
    value = ruler.nought
    for part in tree[1:]:
        addend = tree_ratio(ruler, part)
        value = ruler.add(value, addend if tree[0] == "[" else ruler.inverse(addend))
    return value if tree[0] == "[" else ruler.inverse(value)


def tree_terms(tree):
    """Two sums of powers, without terms below 0, whose quotient is the ratio of such a tree for any shape."""
    if isinstance(tree, str):
        return ((0, 1), (1,)) if tree == "l" else ((1,), (0, 1))
    pairs = [tree_terms(part) for part in tree[1:]]
    if tree[0] == "(":
        pairs = [pair[::-1] for pair in pairs]
    top, bottom = pairs[0]
    for over, under in pairs[1:]:
        top, bottom = plus(times(top, under), times(over, bottom)), times(bottom, under)
    return (top, bottom) if tree[0] == "[" else (bottom, top)


def plus(one, other):
    """The sum of two sums of powers."""
    return tuple(left + right for left, right in zip_longest(one, other, fillvalue=0))


def square_terms(tree):
    """The sum of powers that is 0 for those shapes above 0 for which such a tree fills the square."""
    top, bottom = tree_terms(tree)
    return stripped(plus(top, tuple(-term for term in bottom)))


def stripped(terms):
    """The same sum without zeros at its end."""
    terms = tuple(terms)
    while terms and terms[-1] == 0:
        terms = terms[:-1]
    return terms


def rest_of(terms, divisor):
    """What is left of a sum of powers after a division."""
    return stripped(parted_by(terms, divisor)[1])


def parted_by(terms, divisor):
    """The quotient and what is left of a sum of powers after a division."""
    rest, found = [Fraction(term) for term in terms], []
    while len(rest) >= len(divisor):
        factor = rest[-1] / divisor[-1]
        found.append(factor)
        for at, term in enumerate(divisor):
            rest[len(rest) - len(divisor) + at] -= factor * term
        rest.pop()
    return tuple(found[::-1]), tuple(rest)


def single_terms(terms):
    """Whole terms that have the roots of a sum of powers but 0, each of them once."""
    terms = stripped(terms)
    while terms[0] == 0:
        terms = terms[1:]
    common, other = terms, stripped(at * term for at, term in enumerate(terms[1:], 1))
    while other:
        common, other = other, rest_of(common, other)
    quotient = [Fraction(part) for part in parted_by(terms, common)[0]]
    bottom = lcm(*(part.denominator for part in quotient))
    return tuple(int(part * bottom) for part in quotient)


def some_trees(many, panes, seed):
    """Such trees with so many panes, any brackets in any ones."""
    pick = Random(seed)
    return [some_tree(pick, panes) for _ in range(many)]


def some_tree(pick, panes):
    if panes == 1:
        return pick.choice("ls")
    cuts = sorted(pick.sample(range(1, panes), pick.randint(1, min(3, panes - 1))))
    sizes = [high - low for low, high in zip([0, *cuts], [*cuts, panes])]
    return (pick.choice("[("), *(some_tree(pick, size) for size in sizes))


def all_trees(panes):
    """Every plain tree with so many panes, as a dict from its text to the tree with brackets and parts as a tuple."""
    if panes == 1:
        return {"l": "l", "s": "s"}
    found = {}
    for kind in "[(":
        for sizes in sums(panes, panes - 1):
            for parts in product(*(all_trees(size).values() for size in sizes)):
                if all(part[0] != kind for part in parts):
                    tree = (kind, *sorted(parts, key=tree_text))
                    found[tree_text(tree)] = tree
    return found


def sums(number, most):
    """All descending rows of integers from 1 to most with this sum."""
    if number == 0:
        return [()]
    return [(first, *rest) for first in range(min(most, number), 0, -1) for rest in sums(number - first, first)]


def equation_of(coefficients):
    """The whole terms for which 1 = c1 x + 1 / (c2 x + 1 / ..), not made least."""
    ahead, value = (Fraction(1),), (Fraction(0), coefficients[-1])
    for coefficient in coefficients[-2::-1]:
        ahead, value = value, plus(times((Fraction(0), coefficient), value), ahead)
    terms = plus(value, tuple(-term for term in ahead))
    bottom = lcm(*(term.denominator for term in terms))
    return tuple(int(term * bottom) for term in terms)


def told_shapes(degree, many, seed):
    """Texts of shapes of a degree with the fractions, as pairs, by which they are written out, found backwards."""
    pick, found = Random(seed), {}
    while len(found) < many:
        coefficients = [Fraction(pick.randint(1, 6), pick.randint(1, 6)) for _ in range(degree)]
        terms = lowest(equation_of(coefficients))
        if max(abs(term) for term in terms) > 1000:
            continue
        for rank, _ in enumerate(real_places(terms, 60)):
            text = f"root {rank} of {' '.join(map(str, terms if terms[-1] > 0 else [-term for term in terms]))}"
            try:
                Shape(text)
            except InvalidText:
                continue
            found[text] = tuple((part.numerator, part.denominator) for part in coefficients)
    return list(found.items())


class Anything:
    """What is equal to any value, but is none of those that are right."""

    def __eq__(self, other):
        return True

    def __hash__(self):
        return hash("l")


class Raises:
    """For tests of errors, each asked by place and by name."""

    def assert_raised(self, error, attributes, function, *arguments):
        names = list(signature(function).parameters)
        by_name = dict(list(zip(names, arguments))[::-1])
        for call in (lambda: function(*arguments), lambda: function(**by_name)):
            with self.assertRaises(error) as caught:
                call()
            self.assertIs(type(caught.exception), error)
            self.assertEqual(set(vars(caught.exception)), set(attributes))
            for name, value in attributes.items():
                found = getattr(caught.exception, name)
                if name == "given":
                    self.assertIs(found, value)
                else:
                    self.assertEqual((type(found), found), (type(value), value))

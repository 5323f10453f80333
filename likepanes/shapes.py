"""Shapes: roots above 0 of equations with whole numbers."""

from likepanes.errors import InvalidEquation, InvalidFraction, InvalidText, NoRoot, NotAShape, TooMany
from likepanes.factors import factors_of, is_least
from likepanes.kinds import is_below, is_fraction, is_term, wrong_term
from likepanes.limits import MOST_TERM
from likepanes.roots import FIRST_BITS, rank_of_last, refined, roots_in_all, roots_up_to
from likepanes.roots import roots_within, stretch_of, sturm_chain
from likepanes.terms import negative


class Shape:
    """The shape of a text such as `root 1 of 2 -4 1`."""

    def __init__(self, text):
        told = told_by(text)
        if told is None:
            raise InvalidText(text)
        self._text = text
        self._rank, self._equation = told
        self._near, self._bits = stretch_of(self._equation, self._rank)

    @staticmethod
    def of(equation, low, high):
        """The root of an equation from low to high, both included."""
        check_equation(equation)
        check_stretch(low, high)
        least = factor_within(equation, low, high)
        if least is None:
            raise NoRoot()
        if not all([is_term(term) for term in least]):
            raise TooMany(MOST_TERM)
        return Shape(text_of(rank_of_last(least, high), least))

    @property
    def text(self):
        """The text."""
        return self._text

    @property
    def equation(self):
        """The least equation."""
        return self._equation

    @property
    def degree(self):
        """The degree of the least equation."""
        return len(self._equation) - 1

    @property
    def rank(self):
        """How many real roots of the least equation are below the shape."""
        return self._rank

    def floor_at(self, bits):
        """The greatest integer that is not above the shape times 2 to the power of bits, from 64 on."""
        if bits == self._bits:
            return self._near
        return refined(self._equation, self._near, self._bits, bits)

    def __eq__(self, other):
        return isinstance(other, Shape) and self._text == other._text

    def __str__(self):
        return str(self._text)


def less(one, other):
    """Whether the one shape, as a number, is less than the other one."""
    check_shape(one)
    check_shape(other)
    if one == other:
        return False
    bits = FIRST_BITS
    while one.floor_at(bits) == other.floor_at(bits):
        bits *= 2
    return one.floor_at(bits) < other.floor_at(bits)


def alike(one, other):
    """Whether both shapes have the same panes."""
    check_shape(one)
    check_shape(other)
    return one == other or turned_text(one) == other.text


def check_shape(value):
    """NotAShape if a value, any one, is none."""
    if not isinstance(value, Shape):
        raise NotAShape(value)


def check_equation(value):
    """InvalidEquation if a value, any one, is none."""
    if not isinstance(value, tuple) or len(value) < 2:
        raise InvalidEquation(None)
    wrong = wrong_term(value)
    if wrong is not None:
        raise InvalidEquation(wrong)


def check_stretch(low, high):
    """InvalidFraction if one of two values, any ones, is no end of a stretch from low to high, from 0 on."""
    if not is_fraction(low) or low[0] < 0:
        raise InvalidFraction(low)
    if not is_fraction(high) or is_below(high, low):
        raise InvalidFraction(high)


def factor_within(equation, low, high):
    """The least equation, with terms of any size, of the root above 0 from low to high, None if not just one is."""
    found, many = None, 0
    for terms in factors_of(equation):
        here = roots_within(terms, low, high)
        if here > 0:
            found, many = terms, many + here
    return found if many == 1 else None


def told_by(text):
    """The rank and the least equation that a value, any one, tells, None if it is no text of a shape."""
    words = text.split(" ") if isinstance(text, str) else []
    if len(words) < 3 or words[0] != "root" or words[2] != "of":
        return None
    rank, equation = integer_of(words[1]), tuple([integer_of(word) for word in words[3:]])
    if rank is None or len(equation) < 2 or wrong_term(equation) is not None or not is_least(equation):
        return None
    chain = sturm_chain(equation)
    if not roots_up_to(chain, 0, 1) <= rank < roots_in_all(chain):
        return None
    return rank, equation


def integer_of(word):
    """The integer of a word, None if it is none, is written in another way, or has more digits than a term."""
    digits = word.removeprefix("-")
    if not digits.isascii() or not digits.isdigit() or len(digits) > len(str(MOST_TERM)):
        return None
    return int(word) if str(int(word)) == word else None


def text_of(rank, equation):
    """The text of a shape."""
    words = " ".join([str(term) for term in equation])
    return f"root {rank} of {words}"


def turned_text(shape):
    """The text of 1 by the shape: its roots above 0 come in the opposite order."""
    chain = sturm_chain(shape.equation)
    rank = roots_up_to(chain, 0, 1) + roots_in_all(chain) - 1 - shape.rank
    equation = shape.equation[::-1]
    return text_of(rank, equation if equation[-1] > 0 else negative(equation))

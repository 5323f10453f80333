"""Real roots: how many there are, and where they lie, as closely as wished."""

from likepanes.terms import derivative, negative, remainder, value_at

# So close a stretch settles nearly all questions about a shape at the first look.
FIRST_BITS = 64


def sturm_chain(terms):
    """The row of Sturm for terms of a degree from 1 on that have no root twice."""
    chain = [terms, derivative(terms)]
    while chain[-1] != ():
        chain.append(negative(remainder(chain[-2], chain[-1])))
    chain.pop()
    return chain


def changes(chain, top, bottom):
    """How often the sign changes along the row at top / bottom."""
    values = [value_at(terms, top, bottom) for terms in chain]
    signs = [value > 0 for value in values if value != 0]
    return len([left for left, right in zip(signs, signs[1:]) if left != right])


def reach(terms):
    """An integer that is greater than each root, its sign left out (the bound of Cauchy)."""
    return 1 + max([abs(term) for term in terms])


def roots_up_to(chain, top, bottom):
    """How many real roots are not above top / bottom, which is 0 or more."""
    return changes(chain, -reach(chain[0]), 1) - changes(chain, top, bottom)


def roots_in_all(chain):
    """How many real roots there are."""
    return roots_up_to(chain, reach(chain[0]), 1)


def roots_within(terms, low, high):
    """How many roots above 0 lie from low to high, fractions from 0 on, both included."""
    chain = sturm_chain(terms)
    many = changes(chain, low[0], low[1]) - changes(chain, high[0], high[1])
    # The row of Sturm counts a root at high, but none at low.
    if low[0] > 0 and value_at(terms, low[0], low[1]) == 0:
        many += 1
    return many


def rank_of_last(terms, high):
    """The rank of the greatest root that is not above high, a fraction from 0 on."""
    return roots_up_to(sturm_chain(terms), high[0], high[1]) - 1


def stretch_of(equation, rank):
    """Integers near and bits: the root of this rank, which is above 0, lies from near to near + 1, both over
    2 to the power of bits, no other root lies there, and near is the floor of the root times this power.
    """
    near, bits = lonely_stretch(equation, rank)
    wanted = max(bits, FIRST_BITS)
    return refined(equation, near, bits, wanted), wanted


def lonely_stretch(equation, rank):
    """Such integers with the least bits for which no other root lies there."""
    chain = sturm_chain(equation)
    low, high, bits = 0, reach(equation), 0
    while high - low > 1 or changes(chain, low, 1 << bits) - changes(chain, high, 1 << bits) > 1:
        if high - low == 1:
            low, high, bits = 2 * low, 2 * high, bits + 1
        middle = (low + high) // 2
        if roots_up_to(chain, middle, 1 << bits) > rank:
            high = middle
        else:
            low = middle
    return low, bits


def refined(equation, near, bits, wanted):
    """The floor of a root times 2 to the power of wanted, from the stretch told by near and bits."""
    if len(equation) == 2:
        return (-equation[0] << wanted) // equation[1]
    step = 1
    while bits < wanted:
        step = min(step, wanted - bits)
        closer = guessed(equation, near, bits, step)
        if closer is None:
            step //= 2
        else:
            near, bits, step = closer, bits + step, 2 * step
    return near >> (bits - wanted)


def guessed(equation, near, bits, step):
    """The part, of 2 to the power of step ones in a stretch, in which the root is, None if not found at once.

    The line through both ends of the stretch tells where to look, the part beside is tried, too. So with step 1 it
    is always found. No end is the root, since a least equation of a degree from 2 on has no root that is a fraction.
    """
    low = value_at(equation, near, 1 << bits)
    high = value_at(equation, near + 1, 1 << bits)
    bottom = 1 << (bits + step)
    place = (near << step) + (low << step) // (low - high)
    if (value_at(equation, place, bottom) < 0) != (low < 0):
        place -= 1
    elif (value_at(equation, place + 1, bottom) < 0) == (low < 0):
        place += 1
    starts = (value_at(equation, place, bottom) < 0) == (low < 0)
    ends = (value_at(equation, place + 1, bottom) < 0) != (low < 0)
    return place if starts and ends else None

"""Shapes that are roots of an equation."""

from likepanes.factors import factors_of
from likepanes.roots import roots_in_all, roots_up_to, sturm_chain
from likepanes.shapes import Shape, less, text_of


def solutions(terms):
    """The list of all shapes that are roots of a sum of powers of a degree from 1 to 5."""
    found = []
    for equation in factors_of(terms):
        chain = sturm_chain(equation)
        for rank in range(roots_up_to(chain, 0, 1), roots_in_all(chain)):
            found.append(Shape(text_of(rank, equation)))
    return found


def ascending_texts(shapes):
    """The tuple of the texts of different shapes, in the order of the numbers."""
    ordered = sorted(shapes, key=lambda one: len([other for other in shapes if less(other, one)]))
    return tuple([shape.text for shape in ordered])

"""All that few panes give, by rows and columns."""

from likepanes.errors import InvalidCount
from likepanes.kinds import is_integer
from likepanes.limits import MOST_FEW, MOST_SHAPES
from likepanes.nodes import COLUMNS, LIES, ROWS, STANDS, bracketed, leaves_in
from likepanes.numbers import number_of
from likepanes.shapes import Shape, check_shape, less
from likepanes.solutions import ascending_texts
from likepanes.trees import ratio, shapes_of


def fillings(shape, panes):
    """The ascending tuple of all plain trees with so many panes that fill the square."""
    check_shape(shape)
    check_count(panes, MOST_FEW)
    unit = number_of(shape, (1, 1))
    return tuple(sorted([tree for tree in plain_trees(panes) if ratio(shape, tree) == unit]))


def fewest(shape):
    """The least number of panes, up to 5, of a tree that fills the square, None if there is none."""
    for many in range(1, MOST_FEW + 1):
        if fillings(shape, many) != ():
            return many
    return None


def shapes_with(panes):
    """The tuple of all shapes from 1 on for which some tree with so many panes fills the square, as texts."""
    check_count(panes, MOST_SHAPES)
    texts = {text: True for tree in plain_trees(panes) for text in shapes_of(tree)}
    shapes, square = [Shape(text) for text in texts], Shape("root 0 of -1 1")
    return ascending_texts([shape for shape in shapes if not less(shape, square)])


def check_count(value, most):
    """InvalidCount if a value, any one, is no number of panes up to the most."""
    if not is_integer(value) or not 1 <= value <= most:
        raise InvalidCount(value)


def plain_trees(panes):
    """The list of all plain trees with so many panes."""
    trees = [LIES, STANDS]
    # What may be a part of columns, and of rows: no tree of the same kind.
    inner = {COLUMNS: [LIES, STANDS], ROWS: [LIES, STANDS]}
    for many in range(2, panes + 1):
        columns = [bracketed(COLUMNS, texts) for texts in choices(sorted(inner[COLUMNS]), many)]
        rows = [bracketed(ROWS, texts) for texts in choices(sorted(inner[ROWS]), many)]
        inner[ROWS].extend(columns)
        inner[COLUMNS].extend(rows)
        trees = columns + rows
    return trees


def choices(parts, panes):
    """All ways to choose some of the parts, each as often as wished, with so many panes: lists in their order."""
    found = []
    for at, part in enumerate(parts):
        left = panes - leaves_in(part)
        if left == 0:
            found.append([part])
        elif left > 0:
            found.extend([[part] + others for others in choices(parts[at:], left)])
    return found

"""Trees: squares cut by rows and columns."""

from likepanes.cutting import is_cutting
from likepanes.errors import NotFilled, TooMany
from likepanes.limits import MOST_FEW, MOST_LEAVES
from likepanes.nodes import COLUMNS, LIES, ROWS, STANDS, bracketed, checked, leaves_in, plain_text
from likepanes.numbers import number_of, product, quotient, root, total
from likepanes.order import boxes_of
from likepanes.panes import LYING, STANDING
from likepanes.shapes import check_shape
from likepanes.solutions import ascending_texts, solutions
from likepanes.terms import combined, multiplied


def panes_of(tree):
    """How many panes a tree has."""
    checked(tree)
    return leaves_in(tree)


def plain(tree):
    """The plain tree alike to a tree."""
    return plain_text(checked(tree))


def ratio(shape, tree):
    """The width by the height of a tree, a number."""
    check_shape(shape)
    return node_ratio(shape, checked(tree))


def laid(shape, tree):
    """The cutting by a tree of height 1, its left lower corner being (0, 0)."""
    check_shape(shape)
    node, nought = checked(tree), number_of(shape, (0, 1))
    return tuple(laid_node(shape, node, nought, nought, number_of(shape, (1, 1))))


def shapes_of(tree):
    """The tuple of all shapes for which a tree fills the square, as texts, in the order of the numbers."""
    node = checked(tree)
    if leaves_in(tree) > MOST_FEW:
        raise TooMany(MOST_FEW)
    top, bottom = general_ratio(node)
    return ascending_texts(solutions(combined(1, top, 1, bottom, 0)))


def tree_of(shape, panes, width, height):
    """The tree by which straight cuts part a cutting that fills a rectangle, None if they do not."""
    if not is_cutting(shape, panes, width, height):
        raise NotFilled()
    if len(panes) > MOST_LEAVES:
        raise TooMany(MOST_LEAVES)
    leaves = [LIES if pane[3] == LYING else STANDS for pane in panes]
    return parted_text([(*box, leaf) for box, leaf in zip(boxes_of(shape, panes), leaves)])


def node_ratio(shape, node):
    """The width by the height of a node, a number."""
    kind, parts = node
    if kind == LIES:
        return root(shape)
    if kind == STANDS:
        return turned(shape, root(shape))
    value = number_of(shape, (0, 1))
    for part in parts:
        addend = node_ratio(shape, part)
        value = total(shape, value, addend if kind == COLUMNS else turned(shape, addend))
    return value if kind == COLUMNS else turned(shape, value)


def turned(shape, number):
    """1 by a number."""
    return quotient(shape, number_of(shape, (1, 1)), number)


def laid_node(shape, node, x, y, height):
    """The list of the panes of a node from a left lower corner on, with this height."""
    kind, parts = node
    if kind == LIES:
        return [(x, y, height, LYING)]
    if kind == STANDS:
        return [(x, y, quotient(shape, height, root(shape)), STANDING)]
    panes, width = [], product(shape, node_ratio(shape, node), height)
    for part in parts:
        if kind == COLUMNS:
            panes.extend(laid_node(shape, part, x, y, height))
            x = total(shape, x, product(shape, node_ratio(shape, part), height))
        else:
            high = quotient(shape, width, node_ratio(shape, part))
            panes.extend(laid_node(shape, part, x, y, high))
            y = total(shape, y, high)
    return panes


def general_ratio(node):
    """Two sums of powers of any shape whose quotient is the ratio of a node.

    Their terms are not below 0, so a divisor that they have in common has no root above 0. Their degrees are not
    above the number of the panes.
    """
    kind, parts = node
    if kind == LIES:
        return (0, 1), (1,)
    if kind == STANDS:
        return (1,), (0, 1)
    top, bottom = (), (1,)
    for part in parts:
        over, under = general_ratio(part)
        if kind == ROWS:
            over, under = under, over
        top, bottom = combined(1, multiplied(top, under), -1, multiplied(over, bottom), 0), multiplied(bottom, under)
    return (top, bottom) if kind == COLUMNS else (bottom, top)


def parted_text(boxes):
    """The tree of boxes that fill a rectangle, each with its leaf behind its edges, None if there is none."""
    if len(boxes) == 1:
        return boxes[0][4]
    for kind, start, end in ((COLUMNS, 0, 2), (ROWS, 1, 3)):
        groups = parted(boxes, start, end)
        if len(groups) > 1:
            texts = [parted_text(group) for group in groups]
            return None if None in texts else bracketed(kind, texts)
    return None


def parted(boxes, start, end):
    """The boxes in groups, by all straight lines across one direction that go through none of them."""
    groups, reach = [], None
    for box in sorted(boxes, key=lambda row: row[start]):
        if reach is None or box[start] >= reach:
            groups.append([])
            reach = box[end]
        groups[-1].append(box)
        reach = max(reach, box[end])
    return groups

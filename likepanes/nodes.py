"""Trees as texts and taken apart.

Taken apart, a tree is a node: a pair of its first character and the tuple of the nodes in its brackets.
"""

from likepanes.errors import InvalidTree
from likepanes.limits import MOST_LEAVES

LIES = "l"
STANDS = "s"
COLUMNS = "["
ROWS = "("
CLOSING = {"[": "]", "(": ")"}


def checked(tree):
    """The node of a tree, InvalidTree if a value, any one, is none."""
    node = told_node(tree)
    if node is None:
        raise InvalidTree(tree)
    return node


def is_tree(value):
    """Whether a value, any one, is a tree."""
    return told_node(value) is not None


def told_node(value):
    """The node of a value, any one, None if it is no tree."""
    return node_of(value) if isinstance(value, str) and leaves_in(value) <= MOST_LEAVES else None


def leaves_in(text):
    """How many panes the text of a tree has."""
    return text.count(LIES) + text.count(STANDS)


def node_of(text):
    """The node of a text, None if it is no tree.

    The rows hold what was read in each pair of brackets that is still open, the first one what stands in none.
    """
    rows, opened, is_wanted = [[]], [], True
    for char in text:
        if is_wanted and char in (LIES, STANDS):
            rows[-1].append((char, ()))
            is_wanted = False
        elif is_wanted and char in (COLUMNS, ROWS):
            rows.append([])
            opened.append(char)
        elif opened == [] or is_wanted:
            return None
        elif char == " ":
            is_wanted = True
        elif char == CLOSING[opened[-1]] and len(rows[-1]) > 1:
            node = (opened.pop(), tuple(rows.pop()))
            rows[-1].append(node)
        else:
            return None
    return rows[0][0] if opened == [] and not is_wanted else None


def bracketed(kind, texts):
    """The text of a tree with these parts in brackets of a kind."""
    return kind + " ".join(texts) + CLOSING[kind]


def plain_text(node):
    """The text of the plain tree alike to a node."""
    if node[1] == ():
        return node[0]
    return bracketed(node[0], sorted(loose_texts(node[0], node)))


def loose_texts(kind, node):
    """The texts of the plain trees that stand for a node in brackets of a kind: several if its own are of this kind."""
    if node[0] != kind:
        return [plain_text(node)]
    return [text for part in node[1] for text in loose_texts(kind, part)]

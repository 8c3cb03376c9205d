"""The nodes by which an asking is reckoned (point 14 of DOC.md)."""

from needfill.forms import parts_of


class Node:
    """A made, a call, an either or a same, and the node that it is from some step on.

    word is its maker or function. option is the number of the rule, or of the side, by
    which a call or an either was reckoned.
    """

    def __init__(self, head, word, parts):
        self.head = head
        self.word = word
        self.parts = parts
        self.became = None
        self.option = None


class Unknown(Node):
    """A node of which nothing is known but its kind, which is its word.

    place is the first place at which it stands in what the asking's names have become: the
    number of the name, and a path. held is its own name, where it is held.
    """

    def __init__(self, kind, place, held):
        Node.__init__(self, "unknown", kind, ())
        self.place = place
        self.held = held


def latest(node):
    """What the node is by now."""
    while node.became is not None:
        node = node.became
    return node


def planted(saying, known):
    """The saying as nodes of its own, but for its names: of each known holds the node."""
    if saying[0] == "name":
        return known[saying[1]]
    word = saying[1] if saying[0] in ("made", "call") else ""
    return Node(saying[0], word, [planted(part, known) for part in parts_of(saying)])


def node_below(parts, path):
    """The node at a path into these parts; all mades on the way there have been looked at."""
    node = parts[path[0]]
    for at in path[1:]:
        node = latest(node).parts[at]
    return node

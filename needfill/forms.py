"""Words, new names, sayings and things, and how they are filled (points 2 and 3 of DOC.md)."""

SKIP = ("skip",)
YES = ("made", "yes", ())
NO = ("made", "no", ())

LETTERS = "abcdefghijklmnopqrstuvwxyz"
FIGURES = "0123456789"
MOST_LETTERS = 8
MOST_FIGURES = 3
MOST_PARTS = 3
KEPT_WORDS = ("kind", "def", "either", "same", "truth")

EVERY_HEAD = ("name", "made", "call", "either", "same", "skip")
THING_HEADS = ("name", "made")
PLAIN_HEADS = ("made",)
UNFINISHED_HEADS = ("name", "made", "skip")


def is_text_of(thing, signs, most):
    """Whether it is a text of one to so many of these signs."""
    if not isinstance(thing, str) or not 1 <= len(thing) <= most:
        return False
    return all([sign in signs for sign in thing])


def is_word(thing):
    """Whether it is a word."""
    return is_text_of(thing, LETTERS, MOST_LETTERS) and thing not in KEPT_WORDS


def is_new_name(thing):
    """Whether it is a new name, "1" to "999"."""
    return is_text_of(thing, FIGURES, MOST_FIGURES) and not thing.startswith("0")


def is_node(thing):
    """Whether it has the form of a saying, whatever stands at the places of its parts."""
    if not isinstance(thing, tuple) or len(thing) == 0:
        return False
    head = thing[0]
    if head == "name":
        return len(thing) == 2 and (is_word(thing[1]) or is_new_name(thing[1]))
    if head == "made" or head == "call":
        return len(thing) == 3 and is_word(thing[1]) and isinstance(thing[2], tuple) and len(thing[2]) <= MOST_PARTS
    if head == "either" or head == "same":
        return len(thing) == 3
    return head == "skip" and len(thing) == 1


def parts_of(node):
    """The parts of a node, in order."""
    if node[0] in ("made", "call"):
        return node[2]
    if node[0] in ("either", "same"):
        return node[1:]
    return ()


def with_parts(node, parts):
    """The node with as many other parts."""
    if node[0] in ("made", "call"):
        return (node[0], node[1], parts)
    if node[0] in ("either", "same"):
        return (node[0], *parts)
    return node


def is_saying_of(thing, heads):
    """Whether it is a saying each of whose nodes has one of these heads."""
    waiting = [thing]
    while waiting:
        node = waiting.pop()
        if not is_node(node) or node[0] not in heads:
            return False
        waiting.extend(parts_of(node))
    return True


def is_saying(thing):
    """Whether it is a saying."""
    return is_saying_of(thing, EVERY_HEAD)


def is_thing(thing):
    """Whether it is a saying of made and name alone."""
    return is_saying_of(thing, THING_HEADS)


def is_plain(thing):
    """Whether it is a saying of made alone."""
    return is_saying_of(thing, PLAIN_HEADS)


def is_unfinished(thing):
    """Whether it is a saying of made, name and skip alone."""
    return is_saying_of(thing, UNFINISHED_HEADS)


def nodes_of(saying):
    """The nodes of a saying with their paths, each ahead of its parts."""
    nodes = []
    waiting = [((), saying)]
    while waiting:
        path, node = waiting.pop()
        nodes.append((path, node))
        below = [((*path, at), part) for at, part in enumerate(parts_of(node))]
        # What is put last is taken first, so the first part must be last.
        waiting.extend(below[::-1])
    return tuple(nodes)


def names_of(saying):
    """The names of a saying in the order of their first nodes, each once."""
    names = {node[1]: True for path, node in nodes_of(saying) if node[0] == "name"}
    return tuple(names)


def filled(saying, fills):
    """The saying with each name among the fills replaced by its saying, all at once."""
    return replaced(saying, {name: given for name, given in fills})


def replaced(saying, given):
    """The saying with each name that is a key of given replaced by what stands there."""
    if saying[0] == "name":
        return given.get(saying[1], saying)
    return with_parts(saying, tuple([replaced(part, given) for part in parts_of(saying)]))


def fitted(pattern, thing):
    """The fills by which the pattern is the unfinished thing, or None."""
    fills = []
    waiting = [(pattern, thing)]
    while waiting:
        due, given = waiting.pop()
        if due[0] == "name":
            fills.append((due[1], given))
        elif given[0] == "made" and given[1] == due[1] and len(given[2]) == len(due[2]):
            pairs = list(zip(due[2], given[2]))
            waiting.extend(pairs[::-1])
        else:
            return None
    return tuple(fills)


def fitted_row(patterns, things):
    """The fills by which as many patterns are the unfinished things, one by one, or None."""
    fills = []
    for pattern, thing in zip(patterns, things):
        found = fitted(pattern, thing)
        if found is None:
            return None
        fills.extend(found)
    return tuple(fills)

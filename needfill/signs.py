"""Which node of a saying is the first wrong one (point 6 of DOC.md).

The signs of a program are a dict: for the name of each maker and function its head,
the kinds of its parts and its own kind. One dict serves both, since no function has
a maker's name.
"""

from needfill.shapes import TRUTH, TRUTH_MAKERS


def signs_of(kinds, functions):
    """The signs of these kinds, of truth, and of these functions."""
    signs = {maker: ("made", parts, TRUTH) for maker, parts in TRUTH_MAKERS}
    for kind, makers in kinds:
        for maker, parts in makers:
            signs[maker] = ("made", parts, kind)
    for function, dues, kind, rules in functions:
        signs[function] = ("call", dues, kind)
    return signs


def sign_of(signs, node):
    """The sign that a made or a call uses, or None where there is no such maker or function."""
    sign = signs.get(node[1])
    return sign if sign is not None and sign[0] == node[0] else None


def uses_sign(signs, node, due):
    """Whether a made or a call is of the kind that is due, with as many parts as it must have."""
    sign = sign_of(signs, node)
    return sign is not None and sign[2] == due and len(sign[1]) == len(node[2])


def kind_told(signs, names, saying):
    """The kind of a saying as its first node that has one tells it, or None; names is a dict of kinds."""
    node = saying
    while node[0] == "either":
        node = node[1]
    if node[0] == "same":
        return TRUTH
    if node[0] == "name":
        return names.get(node[1])
    sign = sign_of(signs, node)
    return None if sign is None else sign[2]


def is_right(signs, names, node, due):
    """Whether a node that doesn't stand in a left side is right, its parts aside."""
    if node[0] == "name":
        return due is not None and names.get(node[1]) == due
    if node[0] == "same":
        return due == TRUTH
    return node[0] == "either" or uses_sign(signs, node, due)


def parts_due(signs, names, node, due):
    """The parts of a right node, each with the kind that is due there."""
    if node[0] == "name":
        return []
    if node[0] == "either":
        return [(node[1], due), (node[2], due)]
    if node[0] == "same":
        # Where the kind can't be told nothing is right for it, so the node at fault is come to first.
        kind = kind_told(signs, names, node[1])
        return [(node[1], kind), (node[2], kind)]
    return list(zip(node[2], signs[node[1]][1]))


def below(path, parts):
    """Parts with their dues, as (path, part, due), the last one first: so a stack gives them in order."""
    rows = [((*path, at), part, due) for at, (part, due) in enumerate(parts)]
    return rows[::-1]


def wrong_path(signs, names, saying, due):
    """The path of the first wrong node of a saying that isn't a left side's, or None."""
    waiting = [((), saying, due)]
    while waiting:
        path, node, kind = waiting.pop()
        if not is_right(signs, names, node, kind):
            return path
        waiting.extend(below(path, parts_due(signs, names, node, kind)))
    return None


def left_side(signs, left, dues):
    """The names of a left side with their kinds, and the path of its first wrong node, or None."""
    names = {}
    waiting = below((), list(zip(left, dues)))
    while waiting:
        path, node, kind = waiting.pop()
        if node[0] == "name" and node[1] not in names and node[1] not in signs:
            names[node[1]] = kind
        elif node[0] == "made" and uses_sign(signs, node, kind):
            waiting.extend(below(path, list(zip(node[2], signs[node[1]][1]))))
        else:
            return names, path
    return names, None

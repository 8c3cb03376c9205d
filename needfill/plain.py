"""Plain reckoning by need, and plain things of a kind (points 13 and 23 of DOC.md)."""

from needfill.outcomes import end_of
from needfill.steps import Asking, Way

TURNS = 4
SIZE = 3


def reckon(program, saying, choices, *, turns=TURNS):
    """What a right saying without names comes to, the choices telling the sides of eithers; refuses with NoTable."""
    way = Way(Asking(program, (), saying, ()), choices, turns)
    end = end_of(way)
    used = len(way.taken)
    if used > len(choices):
        return ("choice",)
    if end[0] == "dead":
        return ("dead", end[1], used)
    if end[0] == "cut":
        return ("cut", used)
    fills, value, tree, needed, entries = end[1]
    return ("done", value, tree, needed, used)


def things(program, kind, *, size=SIZE):
    """The plain things of a kind with at most so many nodes, by their number of nodes, makers and parts."""
    known = {}
    found = []
    for many in range(1, size + 1):
        found.extend(things_of_size(program, kind, many, known))
    return tuple(found)


def things_of_size(program, kind, many, known):
    """The plain things of a kind with just so many nodes, in order; known holds what was told already."""
    if (kind, many) not in known:
        found = []
        for maker, kinds in program.makers(kind):
            found.extend([("made", maker, parts) for parts in rows_of_size(program, kinds, many - 1, known)])
        known[kind, many] = found
    return known[kind, many]


def rows_of_size(program, kinds, many, known):
    """The tuples of plain things of these kinds with just so many nodes in all, the first one going slowest."""
    if not kinds:
        return [()] if many == 0 else []
    found = []
    # Each of the other parts has a node at least.
    for first in range(1, many - len(kinds) + 2):
        rest = rows_of_size(program, kinds[1:], many - first, known)
        found.extend([(thing, *row) for thing in things_of_size(program, kinds[0], first, known) for row in rest])
    return found


def fillings(program, names, *, size=SIZE):
    """The fillings of names by plain things of their kinds with at most so many nodes, the first name's slowest."""
    rows = [()]
    for name, kind in names:
        given = things(program, kind, size=size)
        rows = [(*row, (name, thing)) for row in rows for thing in given]
    return tuple(rows)

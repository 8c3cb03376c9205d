"""What a way comes to: its end, and the answer of a way that is done (points 18 and 19 of DOC.md)."""

from needfill.forms import SKIP, parts_of
from needfill.judge import AS_IT_IS
from needfill.nodes import latest
from needfill.programs import rules_of
from needfill.steps import CutWay, DeadWay, HeldWay

SIDES = ("left", "right")


def end_of(way):
    """The end of a way, which is gone along."""
    try:
        way.finish()
    except DeadWay:
        return ("dead", way.used, tuple(way.taken))
    except CutWay:
        return ("cut", tuple(way.taken))
    except HeldWay as stop:
        return ("held", stop.name, tuple(way.taken))
    return ("done", answer_of(way), tuple(way.taken))


def answer_of(way):
    """The answer of a way that is done."""
    asking = way.asking
    things = {}
    for unknown in way.unknowns:
        if unknown.held is not None:
            things[unknown] = ("name", unknown.held)
    names = []
    fills = []
    for row, unknown in zip(asking.names, way.unknowns):
        if unknown.held is None:
            fills.append((row[0], thing_of(unknown, things, names)))
    value = thing_of(way.root, things, names)
    tree = tree_of(asking.program, asking.saying, way.root)
    return (tuple(fills), value, tree, way.used, tuple(way.entries))


def thing_of(node, things, names):
    """What a node has become. things holds what is told already, by nodes; names are the new ones so far."""
    seen = latest(node)
    if seen in things:
        return things[seen]
    if seen.head == "unknown":
        names.append(str(len(names) + 1))
        things[seen] = ("name", names[-1])
    else:
        parts = [thing_of(part, things, names) for part in seen.parts]
        things[seen] = ("made", seen.word, tuple(parts))
    return things[seen]


def tree_of(program, saying, node):
    """The tree of a saying by its node, as that was reckoned."""
    if saying[0] == "name":
        return AS_IT_IS
    if saying[0] != "made" and node.became is None:
        return SKIP
    if saying[0] == "either":
        side = parts_of(saying)[node.option]
        return (SIDES[node.option], tree_of(program, side, node.became))
    trees = [tree_of(program, part, below) for part, below in zip(parts_of(saying), node.parts)]
    if saying[0] == "made":
        return ("made", tuple(trees))
    if saying[0] == "same":
        return ("same", *trees)
    left, right = rules_of(program, saying[1])[node.option]
    return ("rule", node.option, tuple(trees), tree_of(program, right, node.became))

"""Tables of looks: what a function looks at first, and next (points 8 to 10 of DOC.md).

On the way along a table the rules that are left are a dict, of a rule's number its left
side, the numbers rising; the open places are a list of paths into the arguments.
"""

from needfill.errors import NoTable
from needfill.forms import fitted_row, is_thing, nodes_of
from needfill.programs import rules_of
from needfill.shapes import is_row, is_whole
from needfill.signs import signs_of


def table_of(program, function):
    """The function's table that looks at the least paths; refuses with NoTable."""
    lefts = lefts_of(program, function)
    return least_table(program, function, lefts, first_places(lefts))


def least_table(program, function, lefts, places):
    """The table of these rules and open places that looks at the least paths; refuses with NoTable."""
    looks = looks_at(list(lefts.values()), places)
    if not looks and len(lefts) > 1:
        raise NoTable(function, clash_at(lefts, places))
    if not looks:
        return ("rule", list(lefts)[0])
    path = min(looks)
    branches = []
    for maker, fewer, rest in branches_at(program, lefts, places, path):
        branches.append((maker, least_table(program, function, fewer, rest)))
    return ("look", path, tuple(branches))


def lefts_of(program, function):
    """The left sides of a function's rules, by the rules' numbers."""
    return {number: left for number, (left, right) in enumerate(rules_of(program, function))}


def first_places(lefts):
    """The places of the arguments."""
    return [(at,) for at in range(len(lefts.get(0, ())))]


def node_at(left, path):
    """The node of a left side at a path into the arguments."""
    node = left[path[0]]
    for at in path[1:]:
        node = node[2][at]
    return node


def looks_at(lefts, places):
    """Those of the places at which each of the left sides, a list, has a made."""
    return [path for path in places if all([node_at(left, path)[0] == "made" for left in lefts])]


def makers_beside(program, maker):
    """The makers of a maker's kind, in its order."""
    kind = signs_of(program.kinds, ())[maker][2]
    return program.makers(kind)


def branches_at(program, lefts, places, path):
    """The branches of a look at that place: (maker, the rules that are left, the places that are open then)."""
    words = {number: node_at(left, path)[1] for number, left in lefts.items()}
    others = [place for place in places if place != path]
    branches = []
    for maker, parts in makers_beside(program, list(words.values())[0]):
        fewer = {number: lefts[number] for number in lefts if words[number] == maker}
        if fewer:
            below = [(*path, at) for at in range(len(parts))]
            branches.append((maker, fewer, others + below))
    return branches


def clash_at(lefts, places):
    """The clash of all these rules, where none of the open places can be looked at."""
    names = {path: str(at + 1) for at, path in enumerate(sorted(places))}
    # Down to the open places the left sides are alike, so each of them shows the pattern that leads there.
    first = list(lefts.values())[0]
    pattern = [cut_pattern(node, (at,), names) for at, node in enumerate(first)]
    return ("clash", tuple(pattern), tuple(lefts))


def cut_pattern(node, path, names):
    """The node at that path, with names at the places that have one."""
    if path in names:
        return ("name", names[path])
    parts = [cut_pattern(part, (*path, at), names) for at, part in enumerate(node[2])]
    return ("made", node[1], tuple(parts))


def table_stands(program, function, thing):
    """Whether it is a table of the function's, whatever it is."""
    lefts = lefts_of(program, function)
    waiting = [(thing, lefts, first_places(lefts))]
    while waiting:
        table, left, places = waiting.pop()
        looks = looks_at(list(left.values()), places)
        if is_rule_end(table, left, looks):
            continue
        if not is_look(table, looks):
            return False
        due = branches_at(program, left, places, table[1])
        if not are_branches(table[2], [maker for maker, fewer, rest in due]):
            return False
        waiting.extend([(branch[1], fewer, rest) for branch, (maker, fewer, rest) in zip(table[2], due)])
    return True


def is_rule_end(thing, lefts, looks):
    """Whether it is a table that ends at the only rule that is left."""
    if looks or len(lefts) != 1 or not is_row(thing, 2, 2) or thing[0] != "rule":
        return False
    # A truth is found among numbers, too, so it must be kept out ahead.
    return is_whole(thing[1]) and thing[1] in lefts


def is_look(thing, looks):
    """Whether it has the form of a look at one of these places, its branches aside."""
    if not is_row(thing, 3, 3) or thing[0] != "look" or not isinstance(thing[1], tuple):
        return False
    return all([is_whole(at) for at in thing[1]]) and thing[1] in looks


def are_branches(thing, makers):
    """Whether it is a tuple of (maker, anything) for just these makers in order."""
    if not is_row(thing, len(makers), len(makers)):
        return False
    return all([is_row(branch, 2, 2) and branch[0] == maker for branch, maker in zip(thing, makers)])


def clash_stands(program, function, thing):
    """Whether it is a clash of the function's, whatever it is."""
    if not is_row(thing, 3, 3) or thing[0] != "clash":
        return False
    head, patterns, numbers = thing
    lefts = lefts_of(program, function)
    if not are_rules(numbers, lefts) or not are_patterns(patterns, len(first_places(lefts))):
        return False
    chosen = [lefts[number] for number in numbers]
    if any([fitted_row(patterns, left) is None for left in chosen]):
        return False
    # All of them fit, so at each place of a name each of them has a node.
    return not looks_at(chosen, name_places(patterns))


def are_rules(thing, lefts):
    """Whether it is a rising tuple of two or more numbers of these rules."""
    if not is_row(thing, 2, len(lefts)) or not all([is_whole(number) and number in lefts for number in thing]):
        return False
    return all([one < other for one, other in zip(thing, thing[1:])])


def are_patterns(thing, many):
    """Whether it is a tuple of so many patterns, no name twice in all of them."""
    if not is_row(thing, many, many) or not all([is_thing(pattern) for pattern in thing]):
        return False
    names = [node[1] for pattern in thing for path, node in nodes_of(pattern) if node[0] == "name"]
    return len(set(names)) == len(names)


def name_places(patterns):
    """The places of the names in a tuple of patterns."""
    rows = [nodes_of(pattern) for pattern in patterns]
    return [(at, *path) for at, nodes in enumerate(rows) for path, node in nodes if node[0] == "name"]

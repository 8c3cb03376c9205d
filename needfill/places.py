"""The first wrong place of a program (point 5 of DOC.md). Each function here tells a place, or None."""

from needfill.forms import nodes_of
from needfill.shapes import TRUTH, TRUTH_MAKERS, is_program_form
from needfill.signs import left_side, signs_of, wrong_path

MOST_USES = 2


def first_wrong_place(kinds, functions):
    """The first wrong place, whatever is handed in."""
    if not is_program_form(kinds, functions):
        return ()
    place = repeated_kind(kinds)
    if place is None:
        place = wrong_maker(kinds)
    if place is None:
        place = empty_kind(kinds)
    if place is None:
        place = wrong_function(kinds, functions)
    if place is None:
        place = wrong_rule(kinds, functions)
    return place


def are_among(names, there):
    """Whether each of the names is there."""
    return all([name in there for name in names])


def kinds_there(kinds):
    """The names of all kinds, truth ahead."""
    return [TRUTH] + [kind for kind, makers in kinds]


def repeated_kind(kinds):
    """The first kind with an earlier one's name."""
    known = []
    for at, (kind, makers) in enumerate(kinds):
        if kind in known:
            return ("kind", at)
        known.append(kind)
    return None


def wrong_maker(kinds):
    """The first maker with a name that is taken, or with a part of a kind that isn't there."""
    there = kinds_there(kinds)
    known = [maker for maker, parts in TRUTH_MAKERS]
    for at, (kind, makers) in enumerate(kinds):
        for which, (maker, parts) in enumerate(makers):
            if maker in known or not are_among(parts, there):
                return ("maker", at, which)
            known.append(maker)
    return None


def kinds_with_things(kinds):
    """The names of the kinds of which there is a plain thing."""
    found = [TRUTH]
    # While there are more to find each round finds one, so as many rounds as kinds are enough.
    for step in range(len(kinds)):
        for kind, makers in kinds:
            if kind not in found and any([are_among(parts, found) for maker, parts in makers]):
                found.append(kind)
    return found


def empty_kind(kinds):
    """The first kind of which there is no plain thing."""
    found = kinds_with_things(kinds)
    for at, (kind, makers) in enumerate(kinds):
        if kind not in found:
            return ("empty", at)
    return None


def wrong_function(kinds, functions):
    """The first function with a name that is taken, or with a kind that isn't there."""
    there = kinds_there(kinds)
    known = list(signs_of(kinds, ()))
    for at, (function, dues, kind, rules) in enumerate(functions):
        if function in known or not are_among((*dues, kind), there):
            return ("def", at)
        known.append(function)
    return None


def wrong_rule(kinds, functions):
    """The first wrong place in a rule."""
    signs = signs_of(kinds, functions)
    for at, (function, dues, kind, rules) in enumerate(functions):
        for which, (left, right) in enumerate(rules):
            side, path = wrong_side(signs, dues, kind, left, right)
            if side is not None:
                return (side, at, which, path)
    return None


def wrong_side(signs, dues, kind, left, right):
    """The side of a rule that is wrong first and the path there, (None, None) for a right rule."""
    if len(left) != len(dues):
        return "left", ()
    names, path = left_side(signs, left, dues)
    if path is not None:
        return "left", path
    path = wrong_path(signs, names, right, kind)
    if path is not None:
        return "right", path
    if has_overused_name(right):
        return "right", ()
    return None, None


def has_overused_name(saying):
    """Whether some name stands more often in it than it may in a right side."""
    uses = [node[1] for path, node in nodes_of(saying) if node[0] == "name"]
    return any([uses.count(name) > MOST_USES for name in uses])

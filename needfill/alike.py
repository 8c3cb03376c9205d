"""How things with names are made alike by filling the names (point 24 of DOC.md)."""

from needfill.forms import filled, names_of, with_parts


def made_alike(pairs, wanted):
    """What these wanted names become where each pair of things is made alike, with new names; or None."""
    bound = bindings(pairs)
    if bound is None:
        return None
    things = [resolved(name, bound) for name in wanted]
    free = names_of(("made", "all", tuple(things)))
    numbered = [(name, ("name", str(at + 1))) for at, name in enumerate(free)]
    return [filled(thing, numbered) for thing in things]


def bindings(pairs):
    """What names must be for each pair to be alike, as a dict of things in which bound names may stand; or None."""
    bound = {}
    waiting = list(pairs)
    while waiting:
        one, other = waiting.pop()
        one, other = latest_of(one, bound), latest_of(other, bound)
        if one[0] != "name":
            one, other = other, one
        if one[0] == "name":
            if one != other:
                if stands_in(one[1], other, bound):
                    return None
                bound[one[1]] = other
        elif one[1] != other[1]:
            return None
        else:
            waiting.extend(list(zip(one[2], other[2])))
    return bound


def latest_of(thing, bound):
    """The thing itself or, of a bound name, what it is bound to at last."""
    while thing[0] == "name" and thing[1] in bound:
        thing = bound[thing[1]]
    return thing


def stands_in(name, thing, bound):
    """Whether the name stands in the thing, or in what its names are bound to."""
    seen = {}
    waiting = [thing]
    while waiting:
        node = waiting.pop()
        if node[0] == "made":
            waiting.extend(node[2])
        elif node[1] == name:
            return True
        elif node[1] in bound and node[1] not in seen:
            seen[node[1]] = True
            waiting.append(bound[node[1]])
    return False


def resolved(thing, bound):
    """The thing with all bound names replaced."""
    node = latest_of(thing, bound)
    if node[0] == "name":
        return node
    return with_parts(node, tuple([resolved(part, bound) for part in node[2]]))

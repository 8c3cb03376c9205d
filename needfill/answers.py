"""All answers of an asking, when one stands, and what answers cover (points 19, 21 and 24 of DOC.md)."""

from needfill.alike import made_alike
from needfill.forms import filled, fitted, is_node, is_thing, names_of
from needfill.judge import comes_to, tree_turns
from needfill.plain import TURNS
from needfill.shapes import is_row, is_whole
from needfill.signs import signs_of, uses_sign
from needfill.ways import MOST, ends


def answers(program, names, saying, *, turns=TURNS, most=MOST):
    """All answers as an asker tells them, and whether no end is cut."""
    found = ends(program, names, saying, turns=turns, most=most)
    return answers_among(found), is_whole_search(found)


def answers_among(found):
    """The answers of these ends by turns, then by choices, each fills and value but once."""
    done = [(end[1][3], end[2], end[1]) for end in found if end[0] == "done"]
    told = []
    seen = []
    for turns, choices, answer in sorted(done, key=lambda row: row[:2]):
        if answer[:2] not in seen:
            seen.append(answer[:2])
            told.append(answer)
    return tuple(told)


def is_whole_search(found):
    """Whether no end of these is cut."""
    return all([end[0] != "cut" for end in found])


def answer_stands(program, names, saying, answer):
    """Whether it is an answer that stands for a right asking, whatever it is."""
    if not is_row(answer, 5, 5):
        return False
    fills, value, tree, turns, log = answer
    if not are_fills(program, names, fills) or not is_thing(value) or not is_whole(turns):
        return False
    asked = filled(saying, fills)
    if comes_to(program, asked, tree) != value:
        return False
    return 0 <= turns <= tree_turns(program, asked, tree)


def are_fills(program, names, thing):
    """Whether it is fills of just these names in order, by things of their kinds with new names in order."""
    if not is_row(thing, len(names), len(names)):
        return False
    signs = signs_of(program.kinds, ())
    known = {}
    for fill, (name, kind) in zip(thing, names):
        if not is_row(fill, 2, 2) or fill[0] != name or not is_thing_of(signs, kind, fill[1], known):
            return False
    return list(known) == [str(at + 1) for at in range(len(known))]


def is_thing_of(signs, kind, thing, known):
    """Whether it is a thing of that kind; known holds the kinds of the names so far, and gets those it has."""
    waiting = [(thing, kind)]
    while waiting:
        node, due = waiting.pop()
        if not is_node(node):
            return False
        if node[0] == "name":
            if known.setdefault(node[1], due) != due:
                return False
        elif node[0] == "made" and uses_sign(signs, node, due):
            below = list(zip(node[2], signs[node[1]][1]))
            # What is put last is taken first, so the first part must be last.
            waiting.extend(below[::-1])
        else:
            return False
    return True


def covers(answer, fills, value):
    """The fills of the answer's names by which its fills and its value are these plain ones, or None."""
    known = {}
    given = {name: thing for name, thing in fills}
    for name, thing in answer[0]:
        if name not in given or not is_covered(thing, given[name], known):
            return None
    return tuple(known.items()) if is_covered(answer[1], value, known) else None


def is_covered(thing, plain, known):
    """Whether a thing can be filled to the plain one; known holds what its names must be, and gets those it has."""
    found = fitted(thing, plain)
    if found is None:
        return False
    for name, part in found:
        if known.setdefault(name, part) != part:
            return False
    return True


def common(one, other):
    """Fills of the one's names, and of the other's, by which the fills of both are alike, or None."""
    first, second = names_in(one), names_in(other)
    many = len(first)
    # The names of both must be told apart, so the other's are numbered on behind the one's.
    numbers = [("name", str(at + 1)) for at in range(many + len(second))]
    things = [filled(thing, list(zip(first, numbers))) for name, thing in one[0]]
    others = [filled(thing, list(zip(second, numbers[many:]))) for name, thing in other[0]]
    become = made_alike(list(zip(things, others)), numbers)
    if become is None:
        return None
    return tuple(zip(first, become)), tuple(zip(second, become[many:]))


def names_in(answer):
    """The names that stand in an answer's fills, in the order of their first nodes."""
    return names_of(("made", "fills", tuple([thing for name, thing in answer[0]])))

"""A room: all answers of an asking some of whose names are held (point 22 of DOC.md)."""

from needfill.answers import answers_among, is_whole_search
from needfill.plain import TURNS
from needfill.ways import MOST, held_ends


def room(program, names, saying, *, held=(), turns=TURNS, most=MOST):
    """("held", name) where a way would fill a held name or compare it, else ("cut", answers) or ("all", answers)."""
    found = held_ends(program, names, saying, held, turns, most)
    stops = [end[1] for end in found if end[0] == "held"]
    if stops:
        return ("held", stops[0])
    return ("all" if is_whole_search(found) else "cut", answers_among(found))

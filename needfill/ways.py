"""All ends of an asking's ways (points 15 and 18 of DOC.md)."""

from needfill.errors import TooWide
from needfill.kinds import kind_of
from needfill.outcomes import end_of
from needfill.plain import TURNS
from needfill.steps import Asking, Way

MOST = 400


def ends(program, names, saying, *, turns=TURNS, most=MOST):
    """All ends of an asking by so many turns, in the order of their choices."""
    return held_ends(program, names, saying, (), turns, most)


def held_ends(program, names, saying, held, turns, most):
    """All ends of an asking some of whose names are held."""
    kind_of(program, names, saying)
    asking = Asking(program, names, saying, held)
    found = []
    waiting = [()]
    while waiting:
        choices = waiting.pop()
        way = Way(asking, choices, turns)
        found.append(end_of(way))
        if len(found) > most:
            raise TooWide(most)
        waiting.extend(ways_beside(way, len(choices)))
    return tuple(found)


def ways_beside(way, start):
    """The choices of the ways that part from this one at its splits from start on, the last ones first."""
    beside = []
    for at in range(start, len(way.taken)):
        ahead = tuple(way.taken[:at])
        beside.extend([(*ahead, option) for option in range(way.widths[at] - 1, 0, -1)])
    return beside

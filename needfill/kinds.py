"""The kind of what is asked (points 6 and 7 of DOC.md)."""

from needfill.errors import BadNames, BadSaying
from needfill.forms import is_word
from needfill.places import kinds_there
from needfill.shapes import SAYING_DEPTH, is_row, is_sized
from needfill.signs import kind_told, signs_of, wrong_path

MOST_NAMES = 4


def kind_of(program, names, saying):
    """The kind of an asking; refuses names that aren't right, then a saying that isn't."""
    signs = signs_of(program.kinds, program.functions)
    if not are_names(signs, kinds_there(program.kinds), names):
        raise BadNames()
    # Everything else is asked of sayings alone, so whatever is none must be refused ahead of it.
    if not is_sized(saying, SAYING_DEPTH):
        raise BadSaying(())
    known = {name: kind for name, kind in names}
    kind = kind_told(signs, known, saying)
    path = wrong_path(signs, known, saying, kind)
    if path is not None:
        raise BadSaying(path)
    return kind


def are_names(signs, there, thing):
    """Whether it can be the names of an asking, there being the kinds that are there."""
    if not is_row(thing, 0, MOST_NAMES) or not all([is_named_kind(signs, there, row) for row in thing]):
        return False
    return len({name for name, kind in thing}) == len(thing)


def is_named_kind(signs, there, thing):
    """Whether it is (name, kind), a name that is free with a kind that is there."""
    return is_row(thing, 2, 2) and is_word(thing[0]) and thing[0] not in signs and thing[1] in there

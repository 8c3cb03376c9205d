"""What several tests use: short ways to write sayings, sample programs, and things that are nothing."""

from needfill.errors import BadProgram
from needfill.forms import nodes_of
from needfill.programs import Program


def name(word):
    return ("name", word)


def made(maker, *parts):
    return ("made", maker, parts)


def call(function, *parts):
    return ("call", function, parts)


def either(one, other):
    return ("either", one, other)


def same(one, other):
    return ("same", one, other)


A, B, C, D = name("a"), name("b"), name("c"), name("d")
NOUGHT = made("nought")
NUM = ("num", (("nought", ()), ("next", ("num",))))
LIST = ("list", (("end", ()), ("put", ("num", "list"))))
PLUS = ("plus", ("num", "num"), "num", (
    ((NOUGHT, B), B),
    ((made("next", A), B), made("next", call("plus", A, B))),
))
ALIKE = ("alike", ("list", "list"), "truth", (((A, B), same(A, B)),))
SOME = ("some", (), "num", (((), either(NOUGHT, made("next", call("some")))),))
KINDS = (NUM, LIST)
FUNCTIONS = (PLUS, ALIKE, SOME)


def tower(height, word="next"):
    """A thing of so many nodes, each within the one before."""
    thing = NOUGHT
    for step in range(height - 1):
        thing = made(word, thing)
    return thing


def of_nodes(many):
    """A saying of so many nodes, 38 to 45, 8 within one another at most, where tri is of three numbers to a number."""
    full = call("tri", call("tri", NOUGHT, NOUGHT, NOUGHT), call("tri", NOUGHT, NOUGHT, NOUGHT), NOUGHT)
    threes = call("tri", full, full, full)
    # threes has 1 + 3 * 10 nodes; what is left goes into towers beside it.
    left = many - 1 - 31
    saying = call("tri", threes, tower(left - left // 2), tower(left // 2))
    assert len(nodes_of(saying)) == many
    return saying


def nothings():
    """Things that are no word, no new name, no saying and no tuple, made anew, so that a test can see changes."""
    deep = []
    for step in range(39):
        deep = [deep]
    return [
        None, True, False, 0, 1, -7, 999, 10 ** 30, "", " ", "A", "aA", "a b", "a\n", "a1", "1a", "0", "01", "1000",
        "\u00e4", "\u0661", "\u00b2", "\ud800", "abcdefghi", "kind", "def", "either", "same", "x" * 20000,
        [], [()], ["name", "a"], ["skip"], ["made", "a", ()], list("abc"), [None] * 20000, deep,
        {}, {"name": "a"}, {0: "name", 1: "a"}, {"a": {"b": [1, (2,)]}},
    ]


def place_of(kinds, functions):
    """The place that BadProgram bears, or None where the program is right."""
    try:
        Program(kinds, functions)
    except BadProgram as error:
        return error.place
    return None


def places_in(thing):
    """The paths of all parts of tuples within tuples, () for the whole."""
    paths = [()]
    if isinstance(thing, tuple):
        for at, part in enumerate(thing):
            paths += [(at, *path) for path in places_in(part)]
    return paths


def part_at(thing, path):
    for at in path:
        thing = thing[at]
    return thing


def put_at(thing, path, part):
    """The tuple with another part at that path."""
    if not path:
        return part
    at = path[0]
    return (*thing[:at], put_at(thing[at], path[1:], part), *thing[at + 1:])

"""Programs with functions that are asked in several tests."""

from needfill.programs import Program
from tests.samples import A, B, C, D, KINDS, NOUGHT, PLUS, call, either, made, name, same, tower

YES, NO, END, LEAF = made("yes"), made("no"), made("end"), made("leaf")
X, Y, Z, W = name("x"), name("y"), name("z"), name("w")
AS, SKIP = ("as",), ("skip",)

TREE = ("tree", (("leaf", ()), ("fork", ("tree", "tree", "tree"))))
UNIT = ("unit", (("only", ()),))
KNOT = ("knot", (("wrap", ("unit",)), ("tie", ("unit", "knot"))))

TWIN = ("twin", ("num",), "list", (((A,), made("put", A, made("put", A, END))),))
FIRST = ("first", ("list",), "num", (((made("put", A, B),), A),))
LOOP = ("loop", ("num",), "num", (((A,), call("loop", A)),))
SOME = ("some", (), "num", (((), either(NOUGHT, made("next", call("some")))),))
HALF = ("half", ("num",), "num", (
    ((NOUGHT,), NOUGHT),
    ((made("next", made("next", A)),), made("next", call("half", A))),
))
LESS = ("less", ("num", "num"), "truth", (
    ((NOUGHT, made("next", A)), YES),
    ((made("next", A), made("next", B)), call("less", A, B)),
))
NUMBERS = Program(KINDS, (PLUS, TWIN, FIRST, LOOP, SOME, HALF))

JOIN = ("join", ("list", "list"), "list", (
    ((END, B), B),
    ((made("put", A, C), B), made("put", A, call("join", C, B))),
))
HAS = ("has", ("num", "list"), "truth", (
    ((A, END), NO),
    ((A, made("put", B, C)), call("or", same(A, B), call("has", A, C))),
))
OR = ("or", ("truth", "truth"), "truth", (((YES, A), YES), ((NO, A), A)))
BOTH = ("both", ("truth", "truth"), "truth", (((NO, A), NO), ((YES, A), A)))
LISTS = Program(KINDS, (JOIN, HAS, OR, BOTH, LESS))

MIRROR = ("mirror", ("tree",), "tree", (
    ((LEAF,), LEAF),
    ((made("fork", A, B, C),), made("fork", call("mirror", C), B, call("mirror", A))),
))
TREES = Program((TREE, UNIT, KNOT), (MIRROR, OR))

CLASHES = ("clashes", ("num",), "num", (((A,), A), ((NOUGHT,), NOUGHT)))
CLASHES_TOO = ("also", ("num", "num"), "num", (((NOUGHT, A), A), ((A, NOUGHT), A)))
CLASHING = Program(KINDS, (PLUS, CLASHES, CLASHES_TOO))

TURN = ("turn", ("truth",), "truth", (((YES,), NO), ((NO,), YES)))
TRUTHS = Program((), (TURN, OR, BOTH))

# Askings of these programs: what is asked, with its names.
XY = (("x", "num"), ("y", "num"))
ASKINGS = (
    (NUMBERS, XY, call("plus", X, Y)),
    (NUMBERS, XY, same(call("plus", X, Y), tower(3))),
    (NUMBERS, XY, same(tower(3), call("plus", X, Y))),
    (NUMBERS, XY, same(call("plus", X, X), Y)),
    (NUMBERS, XY, same(X, Y)),
    (NUMBERS, (("x", "num"),), same(call("half", X), tower(2))),
    (NUMBERS, (("x", "num"),), call("first", call("twin", call("plus", X, call("some"))))),
    (NUMBERS, (("x", "num"),), either(call("half", X), call("plus", X, X))),
    (NUMBERS, (("x", "list"), ("y", "num")), call("first", X)),
    (NUMBERS, (("x", "list"),), same(call("twin", call("first", X)), X)),
    (NUMBERS, (("x", "num"), ("y", "list")), made("put", call("loop", X), Y)),
    (NUMBERS, (), call("plus", tower(2), either(call("some"), NOUGHT))),
    (NUMBERS, (), made("put", call("plus", tower(2), NOUGHT), END)),
    (LISTS, (("x", "list"), ("y", "list")), same(X, Y)),
    (LISTS, (("x", "list"), ("y", "list")), same(call("join", X, Y), made("put", NOUGHT, END))),
    (LISTS, (("x", "num"), ("y", "num"), ("z", "num")), call("has", X, made("put", Y, made("put", Z, END)))),
    (LISTS, (("x", "num"), ("y", "list")), call("has", X, Y)),
    (LISTS, XY, call("less", X, Y)),
    (LISTS, (("x", "truth"), ("y", "truth")), call("both", X, same(X, Y))),
    (LISTS, (("x", "list"), ("y", "num")), same(made("put", Y, X), made("put", NOUGHT, made("put", Y, END)))),
    (TREES, (("x", "tree"), ("y", "tree")), same(call("mirror", X), Y)),
    (TREES, (("x", "tree"),), same(call("mirror", X), X)),
    (TREES, (("x", "unit"), ("y", "unit")), same(X, Y)),
    (TREES, (("x", "knot"), ("y", "knot")), same(X, Y)),
    (TREES, (("x", "knot"), ("y", "unit")), same(made("tie", Y, X), X)),
    (TRUTHS, (("x", "truth"), ("y", "truth")), call("or", call("turn", X), call("both", Y, X))),
    (TRUTHS, (("x", "truth"), ("y", "truth"), ("z", "truth")), same(same(X, Y), Z)),
    (TRUTHS, (("w", "truth"), ("x", "truth"), ("y", "truth"), ("z", "truth")), same(same(X, W), same(Z, Y))),
)


def fork(*parts):
    return made("fork", *parts)


def new(number):
    """A new name as a saying."""
    return name(str(number))


def filled_kinds(program, names, fills):
    """The kinds of the new names in fills, in the order of their first nodes."""
    kinds = {}

    def walk(thing, kind):
        if thing[0] == "name":
            assert kinds.setdefault(thing[1], kind) == kind
        else:
            parts = dict(program.makers(kind))[thing[1]]
            assert len(parts) == len(thing[2])
            for pair in zip(thing[2], parts):
                walk(*pair)

    due = dict(names)
    for word, thing in fills:
        walk(thing, due[word])
    return tuple(kinds.items())

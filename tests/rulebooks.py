"""Functions by their left sides alone, and point 8 and 9 told once more by all that is tried: for tests of tables."""

import itertools

from needfill.errors import NoTable
from needfill.programs import Program
from needfill.tables import table_of
from tests.samples import A, B, C, D, LIST, NOUGHT, NUM, made, name

TREE = ("tree", (("leaf", ()), ("fork", ("tree", "tree", "tree"))))
END, LEAF, YES, NO = made("end"), made("leaf"), made("yes"), made("no")
MANY = (NUM, LIST, TREE)


def book(dues, *lefts):
    """A program whose function f has these arguments and left sides; another one stands ahead of it."""
    rules = tuple((left, NOUGHT) for left in lefts)
    first = ("other", ("num",), "num", (((A,), A),))
    return Program(MANY, (first, ("f", dues, "num", rules)))


def told(program):
    """The table of f, or the fields that NoTable bears."""
    try:
        return table_of(program, "f")
    except NoTable as error:
        return error.function, error.clash


def node_there(left, path):
    """The node of a left side at a path."""
    node = left[path[0]]
    for at in path[1:]:
        node = node[2][at]
    return node


def makers_of(kind):
    """The makers of a kind, from the tuples themselves."""
    return (("yes", ()), ("no", ())) if kind == "truth" else dict(MANY)[kind]


def all_tables(program):
    """Every table of f, by the words of point 8: each look that can be taken is taken."""
    dues, kind, rules = program.functions[1][1:]
    lefts = [left for left, right in rules]
    return grown(lefts, range(len(lefts)), [((at,), due) for at, due in enumerate(dues)])


def grown(lefts, numbers, places):
    """Every table of the rules with these numbers; places are (path, kind)."""
    heads = {path: [node_there(lefts[number], path)[:2] for number in numbers] for path, kind in places}
    if len(numbers) == 1 and all(head == "name" for row in heads.values() for head, word in row):
        return [("rule", numbers[0])]
    tables = []
    for path, kind in places:
        if all(head == "made" for head, word in heads[path]):
            branches = []
            for maker, parts in makers_of(kind):
                left = [number for number, (head, word) in zip(numbers, heads[path]) if word == maker]
                below = [((*path, at), part) for at, part in enumerate(parts)]
                if left:
                    rest = [place for place in places if place[0] != path] + below
                    branches.append([(maker, table) for table in grown(lefts, left, rest)])
            tables += [("look", path, row) for row in itertools.product(*branches)]
    return tables


def looks(table):
    """The paths that a table looks at, each ahead of those in its branches."""
    if table[0] == "rule":
        return []
    return [table[1]] + [path for maker, branch in table[2] for path in looks(branch)]


def fits(pattern, node):
    """Whether a node of a left side fits a pattern without names that stand twice."""
    if pattern[0] == "name":
        return True
    if node[:2] != pattern[:2] or len(node[2]) != len(pattern[2]):
        return False
    return all(fits(*pair) for pair in zip(pattern[2], node[2]))


def name_paths(pattern, path):
    """The paths of a pattern's names, its own being path."""
    if pattern[0] == "name":
        return [path]
    return [found for at, part in enumerate(pattern[2]) for found in name_paths(part, (*path, at))]


def is_clash(program, patterns, numbers):
    """Whether these rising numbers of two or more rules clash at these patterns, by the words of point 9."""
    lefts = [program.functions[1][3][number][0] for number in numbers]
    if not all(fits(*pair) for left in lefts for pair in zip(patterns, left)):
        return False
    paths = [path for at, pattern in enumerate(patterns) for path in name_paths(pattern, (at,))]
    return not any(all(node_there(left, path)[0] == "made" for left in lefts) for path in paths)


def renamed(patterns):
    """The patterns with the new names "1", "2" .. in their order."""
    count = itertools.count(1)

    def new(pattern):
        if pattern[0] == "name":
            return name(str(next(count)))
        return made(pattern[1], *[new(part) for part in pattern[2]])

    return tuple(new(pattern) for pattern in patterns)


def number_patterns(word):
    """Patterns of a number, the name in them being word."""
    return [name(word), NOUGHT, made("next", name(word)), made("next", NOUGHT), made("next", made("next", name(word)))]


PAIRS = list(itertools.product(number_patterns("a"), number_patterns("b")))


def pair_books(step):
    """Functions of two numbers: each of one rule, each of two rules, every so manieth of three rules."""
    for many in (1, 2):
        for lefts in itertools.product(PAIRS, repeat=many):
            yield book(("num", "num"), *lefts)
    for lefts in itertools.islice(itertools.product(PAIRS, repeat=3), 0, None, step):
        yield book(("num", "num"), *lefts)


def mixed_books():
    """Functions of other arguments and kinds, with tables and without."""
    x, y, z = name("x"), name("y"), name("z")
    yield book((), ())
    yield book((), (), ())
    yield book(("truth",), (NO,), (YES,))
    yield book(("num", "list"), (NOUGHT, made("put", NOUGHT, C)), (made("next", A), made("put", B, C)))
    yield book(("num", "list"), (NOUGHT, B), (made("next", A), END), (made("next", A), made("put", B, C)))
    yield book(("list", "num", "truth"), (END, A, YES), (made("put", A, B), C, NO), (END, A, NO))
    yield book(("list", "num", "truth"), (END, NOUGHT, YES), (made("put", A, B), made("next", C), NO))
    yield book(("list",), (made("put", A, made("put", NOUGHT, B)),), (made("put", NOUGHT, made("put", A, B)),), (END,))
    yield book(("list",), (made("put", A, made("put", NOUGHT, B)),), (made("put", A, END),), (END,))
    yield book(
        ("tree", "tree"), (LEAF, A), (made("fork", LEAF, A, B), made("fork", C, D, LEAF)),
        (made("fork", made("fork", A, B, C), D, x), LEAF), (made("fork", LEAF, x, y), LEAF),
        (made("fork", made("fork", A, B, C), D, x), made("fork", y, z, name("w"))))
    yield book(("tree",), (made("fork", A, LEAF, LEAF),), (made("fork", A, LEAF, made("fork", B, C, D)),), (LEAF,))

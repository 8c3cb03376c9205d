"""Programs and askings thrown by dice that fall alike each time: for tests over many programs."""

from needfill.errors import BadProgram, NoTable
from needfill.forms import nodes_of
from needfill.programs import Program
from needfill.tables import table_of
from tests.samples import made, name

TRUTH = ("truth", (("yes", ()), ("no", ())))
ALL_KINDS = (
    ("num", (("nought", ()), ("next", ("num",)))),
    ("list", (("end", ()), ("put", ("num", "list")))),
    ("tree", (("leaf", ()), ("fork", ("tree", "tree")))),
    ("unit", (("only", ()),)),
    ("box", (("box", ("truth",)), ("cup", ("unit", "num")), ("jar", ()))),
    ("knot", (("wrap", ("unit",)),)),
)
WORDS = ("f", "g", "h")


class Dice:
    """Numbers by a plain rule."""

    def __init__(self, seed):
        self.state = seed * 7919 + 12345

    def below(self, many):
        self.state = (self.state * 6364136223846793005 + 1442695040888963407) % 2 ** 64
        return (self.state >> 33) % many

    def one_of(self, things):
        return things[self.below(len(things))]


class Thrown:
    """A program whose functions have tables, thrown by dice; either says whether eithers stand in it."""

    def __init__(self, seed, either=True):
        self.dice = Dice(seed)
        self.either = either
        self.program = None
        while self.program is None:
            self.program = self.throw()

    def throw(self):
        kinds = self.throw_kinds()
        self.makers = dict((TRUTH, *kinds))
        self.functions = []
        for word in WORDS[:1 + self.dice.below(3)]:
            dues = tuple(self.kind() for at in range(self.dice.below(4)))
            self.functions.append((word, dues, self.kind()))
        try:
            program = Program(kinds, tuple((*row, self.rules(row)) for row in self.functions))
            for row in self.functions:
                table_of(program, row[0])
        except (BadProgram, NoTable):
            return None
        return program

    def throw_kinds(self):
        many = 1 + self.dice.below(3)
        kinds = []
        while len(kinds) < many:
            kind = self.dice.one_of(ALL_KINDS)
            if kind not in kinds:
                kinds.append(kind)
        there = ["truth"] + [word for word, makers in kinds]
        for word, makers in kinds:
            if any(part not in there for maker, parts in makers for part in parts):
                return self.throw_kinds()
        return tuple(kinds)

    def kind(self):
        return self.dice.one_of(sorted(self.makers))

    def rules(self, row):
        """Rules whose left sides are the leaves of looks, some of them left out."""
        lefts = self.lefts([("?", due) for due in row[1]], 4)
        kept = [left for left in lefts if self.dice.below(5) > 0][:8] or lefts[:1]
        return tuple(self.rule(left, row[2]) for left in kept)

    def lefts(self, patterns, looks):
        places = [at for at, pattern in enumerate(patterns) if pattern[0] == "?"]
        if not places or looks <= 0 or self.dice.below(4) == 0:
            return [patterns]
        at = self.dice.one_of(places)
        found = []
        for maker, parts in self.makers[patterns[at][1]]:
            part_rows = [tuple(("?", kind) for kind in parts)]
            if parts and self.dice.below(4) == 0:
                part_rows = self.lefts(list(part_rows[0]), 1)
            for row in part_rows:
                after = [*patterns[:at], ("made", maker, tuple(row)), *patterns[at + 1:]]
                found += self.lefts(after, looks - 2)
        return found

    def rule(self, left, kind):
        """The left side with its names, and a right side."""
        names = {}

        def named(pattern):
            if pattern[0] == "?":
                word = "abcdefghijklmno"[len(names)]
                word = word if word not in WORDS else word * 2
                names[word] = pattern[1]
                return name(word)
            return made(pattern[1], *[named(part) for part in pattern[2]])

        patterns = tuple(named(pattern) for pattern in left)
        while True:
            right = self.saying(names, kind, 3)
            used = [node[1] for path, node in nodes_of(right) if node[0] == "name"]
            if all(used.count(word) <= 2 for word in used):
                return patterns, right

    def saying(self, names, kind, depth):
        """A right saying of that kind."""
        fitting = [word for word, due in names.items() if due == kind]
        if fitting and self.dice.below(5) < 2:
            return name(self.dice.one_of(fitting))
        if depth <= 1:
            return name(self.dice.one_of(fitting)) if fitting else self.least(kind)
        roll = self.dice.below(10)
        calls = [row for row in self.functions if row[2] == kind]
        if calls and roll < 5:
            word, dues, due = self.dice.one_of(calls)
            return ("call", word, tuple(self.saying(names, part, depth - 1) for part in dues))
        if self.either and roll == 5:
            return ("either", self.saying(names, kind, depth - 1), self.saying(names, kind, depth - 1))
        if kind == "truth" and roll > 5:
            side = self.kind()
            return ("same", self.saying(names, side, depth - 1), self.saying(names, side, depth - 1))
        maker, parts = self.dice.one_of(self.makers[kind])
        return ("made", maker, tuple(self.saying(names, part, depth - 1) for part in parts))

    def least(self, kind):
        """A small plain thing of a kind."""
        maker, parts = min(self.makers[kind], key=lambda row: (kind in row[1], len(row[1])))
        return made(maker, *[self.least(part) for part in parts])

    def asking(self):
        """Names and a saying, most often with a call or a same that has names."""
        names = tuple((word, self.kind()) for word in ("x", "y", "z", "w")[:self.dice.below(5)])
        known = dict(names)
        roll = self.dice.below(8)
        if roll == 0 or not names:
            return names, self.saying(known, self.kind(), 4)
        if roll < 4:
            word, dues, kind = self.dice.one_of(self.functions)
            return names, ("call", word, tuple(self.saying(known, due, 3) for due in dues))
        side = known[self.dice.one_of(sorted(known))]
        return names, ("same", self.saying(known, side, 3), self.saying(known, side, 3))

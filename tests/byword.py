"""Points 14 to 19 and 22 told once more, by other means: for tests of ways.

A state is (store, used, log, choices) and is never changed: store is a dict of nodes by
their numbers, copied for each step. Each step yields (tag, state, result): "on" where the
way goes on with a result, else an end. So all ways are told in the order of their choices.
"""

import itertools

from needfill.tables import table_of
from tests.samples import made, name

SKIP, AS = ("skip",), ("as",)


class Words:
    """The ways of an asking; held are names that are held."""

    def __init__(self, program, names, saying, turns, held=()):
        self.program, self.names, self.saying, self.turns, self.held = program, names, saying, turns, held
        self.tables = {row[0]: table_of(program, row[0]) for row in program.functions}
        self.rules = {row[0]: row[3] for row in program.functions}
        self.numbers = itertools.count()

    # Nodes

    def plant(self, store, saying, known):
        """The number of the saying's node, and the store with it."""
        if saying[0] == "name":
            return known[saying[1]], store
        parts = saying[2] if saying[0] in ("made", "call") else saying[1:]
        numbers = []
        for part in parts:
            number, store = self.plant(store, part, known)
            numbers.append(number)
        word = saying[1] if saying[0] in ("made", "call") else None
        number = next(self.numbers)
        return number, {**store, number: (saying[0], word, tuple(numbers), None)}

    def unknown(self, store, kind):
        number = next(self.numbers)
        return number, {**store, number: ("unknown", kind, (), None)}

    def now(self, state, number):
        """The number of the node that a node is by now."""
        while state[0][number][3] is not None:
            number = state[0][number][3][-1]
        return number

    def become(self, state, number, how):
        """The node is another one from then on: how is a tuple, the other one's number its last."""
        store, used, log, choices = state
        return ({**store, number: (*store[number][:3], how)}, used, log, choices)

    def first_place(self, state, number):
        """The first place of an unknown, by looking through all that the names have become."""
        def seek(at, path):
            at = self.now(state, at)
            if at == number:
                return path
            for step, part in enumerate(state[0][at][2]):
                found = seek(part, (*path, step))
                if found is not None:
                    return found
            return None

        for word, kind in self.names:
            path = seek(self.known[word], ())
            if path is not None:
                return word, path
        raise AssertionError("an unknown that stands nowhere")

    def logged(self, state, entry):
        return (state[0], state[1], (*state[2], entry), state[3])

    # Steps

    def split(self, state, many):
        """Each option of a split."""
        if many == 0:
            yield "dead", state, None
        for option in range(many):
            yield "on", (*state[:3], (*state[3], option)), option

    def turn(self, state):
        if state[1] + 1 > self.turns:
            yield "cut", state, None
        else:
            yield "on", (state[0], state[1] + 1, *state[2:]), None

    def keep(self, state, *numbers):
        """The way ends where the first of these that is held is to be filled, or made alike or unlike."""
        for number in numbers:
            for word in self.held:
                if self.known[word] == number:
                    yield "held", state, word
                    return
        yield "on", state, None

    def filled(self, state, number, maker):
        """The state with an unknown filled by a maker."""
        word, path = self.first_place(state, number)
        state = self.logged(state, ("fill", word, path, maker))
        store, parts = state[0], []
        for kind in dict(self.program.makers(store[number][1]))[maker]:
            part, store = self.unknown(store, kind)
            parts.append(part)
        whole = next(self.numbers)
        store = {**store, whole: ("made", maker, tuple(parts), None)}
        return self.become((store, *state[1:]), number, ("fill", whole))

    def alike(self, state, first, second):
        entry = ("like", *self.first_place(state, first), *self.first_place(state, second))
        return self.become(self.logged(state, entry), second, ("like", first))

    def looked(self, state, number):
        """A node is looked at; the result is the number of a made or an unknown."""
        number = self.now(state, number)
        head, word, parts, how = state[0][number]
        if head in ("made", "unknown"):
            yield "on", state, number
        elif head == "call":
            yield from self.along(state, number, self.tables[word])
        elif head == "either":
            for tag, after, option in self.split(state, 2):
                yield from self.looked(self.become(after, number, (option, parts[option])), number)
        else:
            for tag, after, truth in self.seen_pair(state, *parts):
                if tag != "on":
                    yield tag, after, truth
                else:
                    made_number = next(self.numbers)
                    store = {**after[0], made_number: ("made", truth, (), None)}
                    yield from self.looked(self.become((store, *after[1:]), number, ("told", made_number)), number)

    def at_path(self, state, parts, path):
        number = parts[path[0]]
        for at in path[1:]:
            number = state[0][self.now(state, number)][2][at]
        return number

    def along(self, state, number, table):
        """A call goes along its table."""
        head, word, parts, how = state[0][number]
        if table[0] == "rule":
            for tag, after, result in self.turn(state):
                if tag != "on":
                    yield tag, after, result
                else:
                    yield from self.looked(self.ruled(after, number, table[1]), number)
            return
        for tag, after, seen in self.looked(state, self.at_path(state, parts, table[1])):
            if tag != "on":
                yield tag, after, seen
            elif after[0][seen][0] == "made":
                if after[0][seen][1] in dict(table[2]):
                    yield from self.along(after, number, dict(table[2])[after[0][seen][1]])
                else:
                    yield "dead", after, None
            else:
                for tag, later, held in self.keep(after, seen):
                    if tag != "on":
                        yield tag, later, held
                        continue
                    for tag, last, option in self.split(later, len(table[2])):
                        maker, branch = table[2][option]
                        yield from self.along(self.filled(last, seen, maker), number, branch)

    def ruled(self, state, number, rule):
        """The state where a call has used a rule."""
        head, word, parts, how = state[0][number]
        left, right = self.rules[word][rule]
        known = {}

        def gather(pattern, path):
            if pattern[0] == "name":
                known[pattern[1]] = self.at_path(state, parts, path)
            else:
                for at, part in enumerate(pattern[2]):
                    gather(part, (*path, at))

        for at, pattern in enumerate(left):
            gather(pattern, (at,))
        side, store = self.plant(state[0], right, known)
        return self.become((store, *state[1:]), number, (rule, side))

    def seen_pair(self, state, one, other):
        """A pair is looked at, the first one, then the other, and compared; the result is yes or no."""
        for tag, after, first in self.looked(state, one):
            if tag != "on":
                yield tag, after, first
                continue
            for tag, later, second in self.looked(after, other):
                if tag != "on":
                    yield tag, later, second
                else:
                    yield from self.compared(later, self.now(later, one), self.now(later, other))

    def compared(self, state, one, other):
        heads = [state[0][number][0] for number in (one, other)]
        if heads == ["made", "made"]:
            for tag, after, result in self.turn(state):
                if tag != "on":
                    yield tag, after, result
                elif state[0][one][1] != state[0][other][1]:
                    yield "on", after, "no"
                else:
                    yield from self.pairs(after, list(zip(state[0][one][2], state[0][other][2])))
        elif one == other:
            yield "on", state, "yes"
        elif heads == ["unknown", "unknown"]:
            for tag, after, result in self.keep(state, one, other):
                if tag != "on":
                    yield tag, after, result
                    continue
                options = self.unlike(state[0][one][1])
                for tag, later, option in self.split(after, 1 + len(options)):
                    if option == 0:
                        yield "on", self.alike(later, one, other), "yes"
                    else:
                        yield from self.parted(later, one, other, options[option - 1])
        else:
            number = one if heads[0] == "unknown" else other
            for tag, after, result in self.keep(state, number):
                if tag != "on":
                    yield tag, after, result
                    continue
                makers = self.program.makers(state[0][number][1])
                for tag, later, option in self.split(after, len(makers)):
                    last = self.filled(later, number, makers[option][0])
                    yield from self.compared(last, self.now(last, one), self.now(last, other))

    def pairs(self, state, pairs):
        if not pairs:
            yield "on", state, "yes"
            return
        for tag, after, truth in self.seen_pair(state, *pairs[0]):
            if tag != "on" or truth == "no":
                yield tag, after, truth
            else:
                yield from self.pairs(after, pairs[1:])

    def unlike(self, kind):
        makers = self.program.makers(kind)
        options = []
        for (one, parts), (other, others) in itertools.product(makers, repeat=2):
            options += [(one, other, None)] if one != other else [(one, other, at) for at in range(len(parts))]
        return options

    def parted(self, state, one, other, option):
        """Two unknowns are unlike by an option."""
        state = self.filled(self.filled(state, one, option[0]), other, option[1])
        for tag, after, result in self.turn(state):
            if tag != "on":
                yield tag, after, result
            elif option[2] is None:
                yield "on", after, "no"
            else:
                firsts = after[0][self.now(after, one)][2]
                seconds = after[0][self.now(after, other)][2]
                for at in range(option[2]):
                    after = self.alike(after, firsts[at], seconds[at])
                first, second = firsts[option[2]], seconds[option[2]]
                options = self.unlike(after[0][first][1])
                for tag, later, number in self.split(after, len(options)):
                    if tag != "on":
                        yield tag, later, number
                    else:
                        yield from self.parted(later, first, second, options[number])

    def finished(self, state, numbers):
        """Nodes are finished, one after another."""
        if not numbers:
            yield "on", state, None
            return
        for tag, after, seen in self.looked(state, numbers[0]):
            if tag != "on":
                yield tag, after, seen
            else:
                yield from self.finished(after, (*after[0][seen][2], *numbers[1:]))

    # Ends

    def ends(self):
        """All ends, one by one."""
        store, self.known = {}, {}
        for word, kind in self.names:
            self.known[word], store = self.unknown(store, kind)
        self.root, store = self.plant(store, self.saying, self.known)
        for tag, state, result in self.finished((store, 0, (), ()), (self.root,)):
            if tag == "on":
                yield "done", self.answer(state), state[3]
            elif tag == "dead":
                yield "dead", state[1], state[3]
            elif tag == "held":
                yield "held", result, state[3]
            else:
                yield "cut", state[3]

    def answer(self, state):
        numbers = {self.known[word]: word for word in self.held}

        def thing(number):
            number = self.now(state, number)
            head, word, parts, how = state[0][number]
            if head == "made":
                return made(word, *[thing(part) for part in parts])
            if number not in numbers:
                numbers[number] = str(len(numbers) - len(self.held) + 1)
            return name(numbers[number])

        fills = tuple((word, thing(self.known[word])) for word, kind in self.names if word not in self.held)
        many = len(numbers)
        value = thing(self.root)
        assert len(numbers) == many, "a value with names of its own"
        return fills, value, self.tree(state, self.saying, self.root), state[1], state[2]

    def tree(self, state, saying, number):
        head, word, parts, how = state[0][number]
        if saying[0] == "name":
            return AS
        if head == "made":
            return ("made", tuple(self.tree(state, *pair) for pair in zip(saying[2], parts)))
        if how is None:
            return SKIP
        if head == "either":
            return (("left", "right")[how[0]], self.tree(state, saying[1 + how[0]], parts[how[0]]))
        if head == "same":
            return ("same", *[self.tree(state, *pair) for pair in zip(saying[1:], parts)])
        trees = tuple(self.tree(state, *pair) for pair in zip(saying[2], parts))
        return ("rule", how[0], trees, self.tree(state, self.rules[word][how[0]][1], how[1]))


def ends_by_words(program, names, saying, turns, most=400, held=()):
    """All ends, or None where there are more than so many."""
    found = tuple(itertools.islice(Words(program, names, saying, turns, held).ends(), most + 1))
    return found if len(found) <= most else None

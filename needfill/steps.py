"""The steps of a way: looks, splits, fillings and turns (points 14 to 17 and 22 of DOC.md)."""

from needfill.forms import nodes_of
from needfill.nodes import Node, Unknown, latest, node_below, planted
from needfill.programs import rules_of
from needfill.tables import table_of


class DeadWay(Exception):
    """No option leads on."""


class CutWay(Exception):
    """A way would use more turns than it may."""


class HeldWay(Exception):
    """A way would fill the unknown of a held name, or make it alike with another one, or unlike."""

    def __init__(self, name):
        self.name = name


class Asking:
    """What is asked, made ready for its ways; refuses with NoTable, of the first function that has none."""

    def __init__(self, program, names, saying, held):
        self.program = program
        self.names = names
        self.saying = saying
        self.held = held
        self.tables = {row[0]: table_of(program, row[0]) for row in program.functions}


class Way:
    """One way of an asking. It takes the options that choices tell, and behind them the first one at each split."""

    def __init__(self, asking, choices, turns):
        self.asking = asking
        self.choices = choices
        self.turns = turns
        self.used = 0
        self.taken = []
        self.widths = []
        self.entries = []
        self.unknowns = []
        for at, (name, kind) in enumerate(asking.names):
            self.unknowns.append(Unknown(kind, (at, ()), name if name in asking.held else None))
        known = {row[0]: unknown for row, unknown in zip(asking.names, self.unknowns)}
        self.root = planted(asking.saying, known)

    def finish(self):
        """Finishes the asking's node; stops with DeadWay, CutWay or HeldWay where the way ends ahead of that."""
        finished = {}
        waiting = [self.root]
        while waiting:
            node = self.look(waiting.pop())
            # One node may stand at very many places; what is finished once stays so.
            if node not in finished:
                finished[node] = True
                waiting.extend(node.parts[::-1])

    def look(self, node):
        """The made or the unknown that the node comes to."""
        seen = latest(node)
        while seen.head not in ("made", "unknown"):
            if seen.head == "call":
                self.use_rule(seen)
            elif seen.head == "either":
                self.take_side(seen)
            else:
                self.tell_same(seen)
            seen = latest(seen)
        return seen

    def use_rule(self, call):
        """Goes along the table of a call's function to a rule, and uses it."""
        table = self.asking.tables[call.word]
        while table[0] == "look":
            node = self.look(node_below(call.parts, table[1]))
            table = self.branch_of(node, table[2])
        self.use_turn()
        call.option = table[1]
        left, right = rules_of(self.asking.program, call.word)[table[1]]
        known = {}
        for at, pattern in enumerate(left):
            for path, node in nodes_of(pattern):
                if node[0] == "name":
                    known[node[1]] = node_below(call.parts, (at, *path))
        call.became = planted(right, known)

    def branch_of(self, node, branches):
        """The table of the branch to which a node that has been looked at leads; an unknown is filled."""
        tables = dict(branches)
        if node.head == "unknown":
            self.fill_by_split(node, list(tables))
        maker = latest(node).word
        if maker not in tables:
            raise DeadWay()
        return tables[maker]

    def take_side(self, either):
        """Splits at an either."""
        either.option = self.choose(2)
        either.became = either.parts[either.option]

    def tell_same(self, same):
        """Looks at both sides of a same and compares them."""
        one, other = same.parts
        self.look(one)
        self.look(other)
        same.became = Node("made", "yes" if self.compare(one, other) else "no", [])

    def compare(self, one, other):
        """Whether two nodes that have been looked at come to yes."""
        first, second = latest(one), latest(other)
        if first.head == "unknown" and second.head == "unknown":
            return first == second or self.split_alike(first, second)
        first, second = self.look_as_made(first), self.look_as_made(second)
        self.use_turn()
        if first.word != second.word:
            return False
        for left, right in zip(first.parts, second.parts):
            self.look(left)
            self.look(right)
            if not self.compare(left, right):
                return False
        return True

    def look_as_made(self, node):
        """The node itself where it is a made; an unknown is filled, by a split over all makers of its kind."""
        if node.head == "unknown":
            makers = self.asking.program.makers(node.word)
            self.fill_by_split(node, [maker for maker, parts in makers])
        return latest(node)

    def split_alike(self, first, second):
        """Makes two unknowns alike, or unlike, by a split; tells whether they are alike."""
        self.keep_held(first)
        self.keep_held(second)
        options = self.unlike_options(first)
        option = self.choose(1 + len(options))
        if option == 0:
            self.make_alike(first, second)
            return True
        self.make_unlike(first, second, options[option - 1])
        return False

    def unlike_options(self, unknown):
        """The options by which two unknowns of this one's kind are unlike: their makers, and which part is unlike."""
        makers = self.asking.program.makers(unknown.word)
        options = []
        for maker, parts in makers:
            for other, others in makers:
                if maker != other:
                    options.append((maker, other, None))
                else:
                    options.extend([(maker, other, at) for at in range(len(parts))])
        return options

    def make_unlike(self, first, second, option):
        """Makes two unknowns unlike by that option, and by a split for each part that is to be unlike then."""
        maker, other, at = option
        while True:
            self.fill(first, maker)
            self.fill(second, other)
            self.use_turn()
            if at is None:
                return
            pairs = list(zip(latest(first).parts, latest(second).parts))
            for one, two in pairs[:at]:
                self.make_alike(one, two)
            first, second = pairs[at]
            options = self.unlike_options(first)
            maker, other, at = options[self.choose(len(options))]

    def make_alike(self, first, second):
        """The second unknown is the first one from then on."""
        name, path = self.place_of(first)
        other, place = self.place_of(second)
        self.entries.append(("like", name, path, other, place))
        second.became = first
        first.place = min(first.place, second.place)

    def fill_by_split(self, unknown, makers):
        """Fills an unknown by one of these makers."""
        self.keep_held(unknown)
        self.fill(unknown, makers[self.choose(len(makers))])

    def fill(self, unknown, maker):
        """The unknown is a made of that maker from then on."""
        name, path = self.place_of(unknown)
        self.entries.append(("fill", name, path, maker))
        kinds = dict(self.asking.program.makers(unknown.word))[maker]
        # The parts stand nowhere else, so their first places are those below the whole's first place.
        parts = [Unknown(kind, (unknown.place[0], (*path, at)), None) for at, kind in enumerate(kinds)]
        unknown.became = Node("made", maker, parts)

    def place_of(self, unknown):
        """The first place of an unknown, as a name of the asking and a path."""
        number, path = unknown.place
        return self.asking.names[number][0], path

    def keep_held(self, unknown):
        """Ends the way where the unknown is held."""
        if unknown.held is not None:
            raise HeldWay(unknown.held)

    def use_turn(self):
        """Uses a turn."""
        if self.used >= self.turns:
            raise CutWay()
        self.used += 1

    def choose(self, many):
        """The option that is taken at a split of so many."""
        if many == 0:
            raise DeadWay()
        at = len(self.taken)
        option = self.choices[at] if at < len(self.choices) else 0
        self.taken.append(option)
        self.widths.append(many)
        return option

"""Point 22: a room, which gathers all answers where some names are held."""

import copy
import itertools
import unittest

from needfill.answers import answers
from needfill.errors import BadNames, BadSaying, NoTable, TooWide
from needfill.forms import filled, names_of
from needfill.judge import comes_to, tree_turns
from needfill.kinds import kind_of
from needfill.plain import fillings
from needfill.rooms import room
from tests.books import AS, ASKINGS, CLASHING, END, LISTS, NO, NUMBERS, SKIP, TREES, TRUTHS, X, XY, Y, YES, Z, new
from tests.byword import ends_by_words
from tests.dice import Thrown
from tests.samples import NOUGHT, call, either, made, same, tower

TRUTH_XY = (("x", "truth"), ("y", "truth"))


def put(one, rest):
    return made("put", one, rest)


def askings(seeds):
    yield from ASKINGS
    for seed in range(seeds):
        thrown = Thrown(seed)
        for step in range(3):
            yield thrown.program, *thrown.asking()


def holdings(names):
    """Every choice of held names, in order and turned round."""
    words = [word for word, kind in names]
    for many in range(len(words) + 1):
        for held in itertools.combinations(words, many):
            yield held
            if many > 1:
                yield held[::-1]


def room_by_words(program, names, saying, held, turns):
    """What a room tells, once more by the words of points 21 and 22."""
    found = ends_by_words(program, names, saying, turns, held=held)
    if found is None:
        return None
    for end in found:
        if end[0] == "held":
            return end[:2]
    done = sorted([(end[1][3], end[2], end[1]) for end in found if end[0] == "done"], key=lambda row: row[:2])
    told = []
    for turns_used, choices, answer in done:
        if answer[:2] not in [earlier[:2] for earlier in told]:
            told.append(answer)
    return ("cut" if any(end[0] == "cut" for end in found) else "all", tuple(told))


class Rooms(unittest.TestCase):
    def test_held_by_a_look(self):
        self.assertEqual(room(NUMBERS, XY, call("plus", X, Y), held=("x",)), ("held", "x"))
        self.assertEqual(room(NUMBERS, XY, call("plus", X, Y), held=("x", "y")), ("held", "x"))
        self.assertEqual(room(NUMBERS, XY, call("plus", Y, X), held=("x", "y")), ("held", "y"))

    def test_held_by_a_same(self):
        for saying in (same(X, NOUGHT), same(NOUGHT, X), same(X, Y), same(Y, X), same(put(X, END), put(Y, END))):
            self.assertEqual(room(NUMBERS, XY, saying, held=("x",)), ("held", "x"))
        self.assertEqual(room(NUMBERS, XY, same(X, X), held=("x",))[0], "all")

    def test_of_two_held_unknowns_the_first_ones_name(self):
        for held in (("x", "y"), ("y", "x")):
            self.assertEqual(room(NUMBERS, XY, same(X, Y), held=held), ("held", "x"))
            self.assertEqual(room(NUMBERS, XY, same(Y, X), held=held), ("held", "y"))
        self.assertEqual(room(NUMBERS, XY, same(X, Y), held=("y",)), ("held", "y"))

    def test_even_where_they_could_only_be_alike(self):
        names = (("x", "unit"), ("y", "unit"))
        self.assertEqual(room(TREES, names, same(X, Y), held=("y",)), ("held", "y"))
        self.assertEqual(room(TREES, names, same(X, made("only")), held=("x",)), ("held", "x"))

    def test_the_first_such_end_by_choices(self):
        saying = either(either(NOUGHT, call("plus", Y, NOUGHT)), call("plus", X, NOUGHT))
        self.assertEqual(room(NUMBERS, XY, saying, held=("x", "y")), ("held", "y"))
        self.assertEqual(room(NUMBERS, XY, saying, held=("x",)), ("held", "x"))
        # By turns the other way would be first: it is held at once.
        saying = either(call("plus", tower(3), call("plus", Y, NOUGHT)), call("plus", X, NOUGHT))
        self.assertEqual(room(NUMBERS, XY, saying, held=("x", "y"), turns=8), ("held", "y"))
        self.assertEqual(room(NUMBERS, XY, saying, held=("x", "y"), turns=2), ("held", "x"))

    def test_held_ahead_of_cut(self):
        saying = either(call("loop", NOUGHT), call("plus", X, Y))
        self.assertEqual(room(NUMBERS, XY, saying, held=("x",)), ("held", "x"))
        self.assertEqual(room(NUMBERS, XY, saying, held=("y",))[0], "cut")
        self.assertEqual(room(NUMBERS, XY, call("plus", X, Y), held=("x",), turns=0), ("held", "x"))

    def test_all(self):
        told = room(NUMBERS, XY, call("plus", tower(2), Y), held=("y",))
        tree = ("rule", 1, (("made", (("made", ()),)), AS), ("made", (("rule", 0, (AS, AS), AS),)))
        self.assertEqual(told, ("all", (((("x", new(1)),), made("next", Y), tree, 2, ()),)))
        told = room(TRUTHS, TRUTH_XY, call("or", X, Y), held=("y",))
        self.assertEqual(told, ("all", (
            ((("x", YES),), YES, ("rule", 0, (AS, AS), ("made", ())), 1, (("fill", "x", (), "yes"),)),
            ((("x", NO),), Y, ("rule", 1, (AS, AS), AS), 1, (("fill", "x", (), "no"),)),
        )))

    def test_cut(self):
        told = room(NUMBERS, XY, call("plus", X, Y), held=("y",), turns=2)
        self.assertEqual(told[0], "cut")
        self.assertEqual([answer[:2] for answer in told[1]], [
            ((("x", NOUGHT),), Y), ((("x", tower(2)),), made("next", Y)),
        ])
        self.assertEqual(room(NUMBERS, XY, call("loop", X), held=("x",)), ("cut", ()))

    def test_no_answers(self):
        self.assertEqual(room(NUMBERS, XY, call("first", END), held=("x",)), ("all", ()))

    def test_new_names_beside_held_ones(self):
        names = (("w", "num"), ("x", "list"), ("y", "num"), ("z", "list"))
        told = room(NUMBERS, names, put(call("first", X), Z), held=("w", "z"))
        self.assertEqual([answer[:2] for answer in told[1]], [
            ((("x", put(new(1), new(2))), ("y", new(3))), put(new(1), Z)),
        ])

    def test_one_with_fills_and_value_of_an_earlier_one_is_passed_over(self):
        told = room(NUMBERS, XY, either(X, either(X, call("plus", NOUGHT, X))), held=("x",))
        self.assertEqual(told, ("all", (((("y", new(1)),), X, ("left", AS), 0, ()),)))
        self.assertEqual(len(room(NUMBERS, XY, either(X, Y), held=("x", "y"))[1]), 2)

    def test_none_held(self):
        for program, names, saying in askings(40):
            told, whole = answers(program, names, saying, turns=3)
            due = ("all" if whole else "cut", told)
            self.assertEqual(room(program, names, saying, turns=3), due)
            self.assertEqual(room(program, names, saying, held=(), turns=3), due)

    def test_what_is_left_out(self):
        for program, names, saying in ASKINGS:
            self.assertEqual(room(program, names, saying), room(program, names, saying, held=(), turns=4, most=400))
        with self.assertRaises(TooWide) as caught:
            room(TREES, (("x", "tree"), ("y", "tree")), same(X, Y), turns=8)
        self.assertEqual(caught.exception.most, 400)

    def test_held_in_any_order(self):
        for program, names, saying in askings(40):
            held = tuple(word for word, kind in names)
            for order in itertools.permutations(held):
                self.assertEqual(room(program, names, saying, held=order), room(program, names, saying, held=held))

    def test_as_told_by_words(self):
        count = {}
        for program, names, saying in askings(120):
            for held in holdings(names):
                for turns in (0, 2, 4):
                    due = room_by_words(program, names, saying, held, turns)
                    if due is not None:
                        self.assertEqual(room(program, names, saying, held=held, turns=turns), due)
                        count[due[0]] = count.get(due[0], 0) + 1
        self.assertGreater(min(count[word] for word in ("held", "cut", "all")), 200)

    def test_trees_and_turns(self):
        for program, names, saying in askings(60):
            for held in holdings(names):
                told = room(program, names, saying, held=held)
                for fills, value, tree, turns, log in told[1] if told[0] != "held" else ():
                    self.assertEqual([word for word, thing in fills], [word for word, kind in names if word not in held])
                    asked = filled(saying, fills)
                    self.assertEqual(comes_to(program, asked, tree), value)
                    self.assertTrue(0 <= turns <= min(4, tree_turns(program, asked, tree)))
                    new_names = names_of(made("all", *[thing for word, thing in fills]))
                    self.assertEqual(new_names, tuple(str(at + 1) for at in range(len(new_names))))
                    self.assertLessEqual(set(names_of(value)), set(new_names) | set(held))
                    self.assertTrue(all(entry[1] not in held for entry in log))

    def test_the_same_asking_with_these_names_free_where_nothing_looks_at_them(self):
        count = 0
        for program, names, saying in askings(100):
            for held in holdings(names):
                told = room(program, names, saying, held=held, turns=3)
                if told[0] == "held":
                    continue
                free, whole = answers(program, names, saying, turns=3)
                self.assertEqual(told[0], "all" if whole else "cut")
                # What is told with these names free, with each of them put back for what it became.
                self.assertEqual(len(free), len(told[1]))
                for one, other in zip(free, told[1]):
                    count += 1
                    back = tuple((thing[1], ("name", word)) for word, thing in one[0] if word in held)
                    rest = [(word, filled(thing, back)) for word, thing in one[0] if word not in held]
                    value = filled(one[1], back)
                    self.assertEqual(renamed(rest, value), renamed(other[0], other[1]))
                    self.assertEqual(one[2:], other[2:])
        self.assertGreater(count, 300)


def renamed(fills, value):
    """Fills and a value with new names numbered anew, by their first nodes."""
    told = names_of(made("all", *[thing for word, thing in fills]))
    row = tuple((word, ("name", "n" + str(at))) for at, word in enumerate(told))
    return [(word, filled(thing, row)) for word, thing in fills], filled(value, row)


class Holds(unittest.TestCase):
    def test_whatever_the_held_names_are_filled_by(self):
        counts = {"all": 0, "whole": 0}
        for program, names, saying in askings(150):
            for held in holdings(names):
                told = room(program, names, saying, held=held, turns=3)
                if told[0] != "all":
                    continue
                held_names = tuple(row for row in names if row[0] in held)
                rest = tuple(row for row in names if row[0] not in held)
                for fills in fillings(program, held_names, size=2)[:6]:
                    asked = filled(saying, fills)
                    try:
                        kind_of(program, rest, asked)
                    except BadSaying:
                        continue
                    self.is_of_the_room(program, rest, asked, fills, told[1], counts)
        self.assertGreater(min(counts.values()), 300)

    def is_of_the_room(self, program, names, asked, fills, told, counts):
        due = [(answer[0], filled(answer[1], fills)) for answer in told]
        for turns in (1, 3, 6):
            found, whole = answers(program, names, asked, turns=turns)
            pairs = [answer[:2] for answer in found]
            self.assertEqual([pair for pair in pairs if pair not in due], [])
            counts["all"] += 1
            if whole:
                self.assertEqual([pair for pair in due if pair not in pairs], [])
                counts["whole"] += 1


class Refusals(unittest.TestCase):
    def test_in_their_order(self):
        wide, bad = either(X, Y), (("x", "none"),)
        for error, program, names, saying in (
                (BadNames, CLASHING, bad, Z), (BadSaying, CLASHING, XY, Z), (NoTable, CLASHING, XY, wide),
                (TooWide, NUMBERS, XY, wide), (BadNames, NUMBERS, [], wide), (BadSaying, NUMBERS, XY, None)):
            for held in ((), ("x",)):
                with self.assertRaises(error):
                    room(program, names, saying, held=held, most=1)

    def test_ends_count_as_ever(self):
        # Three ends, the first and the last of them held.
        saying = either(call("plus", X, NOUGHT), either(NOUGHT, call("plus", X, NOUGHT)))
        self.assertEqual(room(NUMBERS, XY, saying, held=("x",), most=3), ("held", "x"))
        with self.assertRaises(TooWide) as caught:
            room(NUMBERS, XY, saying, held=("x",), most=2)
        self.assertEqual(caught.exception.most, 2)

    def test_nothing_is_changed_and_it_is_told_alike_again(self):
        for program, names, saying in ASKINGS:
            for held in holdings(names):
                before = copy.deepcopy((program.kinds, program.functions, names, saying, held))
                told = room(program, names, saying, held=held)
                kept = copy.deepcopy(told)
                self.assertEqual(room(program, names, saying, held=held), kept)
                self.assertEqual(told, kept)
                self.assertEqual((program.kinds, program.functions, names, saying, held), before)

    def test_what_was_not_looked_at_in_a_room(self):
        saying = call("or", YES, same(X, Y))
        told = room(TRUTHS, TRUTH_XY, saying, held=("x", "y"))
        self.assertEqual(told, ("all", (((), YES, ("rule", 0, (("made", ()), SKIP), ("made", ())), 1, ()),)))
        names = (("x", "list"), ("y", "list"))
        self.assertEqual(room(LISTS, names, call("join", END, Y), held=("y", "x"))[1][0][:2], ((), Y))


if __name__ == "__main__":
    unittest.main()

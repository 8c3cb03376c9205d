"""Points 19 and 21: an answer's fills, value, tree, turns and log, and all answers of an asking."""

import copy
import unittest

from needfill.answers import answers
from needfill.errors import BadNames, BadSaying, NoTable, TooWide
from needfill.forms import filled, is_thing, names_of
from needfill.judge import comes_to, tree_turns
from needfill.programs import Program
from needfill.ways import ends
from tests.books import (
    AS, ASKINGS, CLASHING, END, LISTS, NO, NUMBERS, SKIP, TREES, TRUTHS, X, XY, Y, YES, Z, fork, new,
)
from tests.dice import Thrown
from tests.samples import A, B, NOUGHT, NUM, call, either, made, name, same, tower


def put(one, rest):
    return made("put", one, rest)


def only(program, names, saying, **named):
    """The answers alone."""
    return answers(program, names, saying, **named)[0]


def many_askings():
    """Askings of books and of thrown programs, with turns."""
    for program, names, saying in ASKINGS:
        yield program, names, saying, 3
    for seed in range(120):
        thrown = Thrown(seed)
        for step in range(3):
            yield thrown.program, *thrown.asking(), 4


class Fills(unittest.TestCase):
    def test_for_the_names_in_order(self):
        names = (("z", "num"), ("x", "num"), ("y", "list"))
        found = only(NUMBERS, names, call("plus", X, Z), turns=1)
        self.assertEqual([answer[:2] for answer in found], [
            ((("z", new(1)), ("x", NOUGHT), ("y", new(2))), new(1)),
        ])

    def test_names_that_are_asked_nowhere(self):
        names = (("w", "list"), ("x", "num"), ("y", "truth"), ("z", "num"))
        self.assertEqual(only(NUMBERS, names, X), (
            (tuple((word, new(at + 1)) for at, (word, kind) in enumerate(names)), new(2), AS, 0, ()),))
        self.assertEqual(only(NUMBERS, names, NOUGHT)[0][1:4], (NOUGHT, ("made", ()), 0))

    def test_new_names_in_the_order_of_their_first_nodes(self):
        names = (("x", "list"), ("y", "num"), ("z", "list"))
        found = only(NUMBERS, names, put(call("first", Z), X))
        self.assertEqual(found[0][0], (("x", new(1)), ("y", new(2)), ("z", put(new(3), new(4)))))
        self.assertEqual(found[0][1], put(new(3), new(1)))

    def test_a_new_name_stands_wherever_its_unknown_does(self):
        names = (("x", "num"), ("y", "list"), ("z", "num"))
        saying = call("both", same(X, Z), same(Y, put(X, END)))
        found = [answer for answer in only(LISTS, names, saying, turns=5) if answer[1] == YES]
        self.assertEqual(found[0][0], (("x", new(1)), ("y", put(new(1), END)), ("z", new(1))))

    def test_the_second_one_is_the_first_one(self):
        self.assertEqual(only(NUMBERS, XY, same(Y, X), turns=0)[0][:2], ((("x", new(1)), ("y", new(1))), YES))

    def test_no_names(self):
        found = only(NUMBERS, (), call("plus", NOUGHT, tower(2)))
        self.assertEqual(found, (((), tower(2), ("rule", 0, (("made", ()), ("made", (("made", ()),))), AS), 1, ()),))

    def test_the_form_of_many(self):
        for program, names, saying, turns in many_askings():
            for fills, value, tree, used, log in only(program, names, saying, turns=turns):
                self.assertEqual([word for word, thing in fills], [word for word, kind in names])
                things = tuple(thing for word, thing in fills)
                self.assertTrue(all(is_thing(thing) for thing in (*things, value)))
                told = names_of(("made", "all", things))
                self.assertEqual(told, tuple(str(at + 1) for at in range(len(told))))
                self.assertLessEqual(set(names_of(value)), set(told))
                self.assertTrue(0 <= used <= turns)


class Trees(unittest.TestCase):
    def test_as_for_names_of_the_asking_and_of_right_sides(self):
        found = only(NUMBERS, XY, call("plus", made("next", X), Y), turns=2)
        self.assertEqual([answer[2] for answer in found], [
            ("rule", 1, (("made", (AS,)), AS), ("made", (("rule", 0, (AS, AS), AS),))),
        ])

    def test_skips_for_what_was_not_looked_at(self):
        rest = put(call("loop", X), put(either(X, X), END))
        found = only(NUMBERS, XY, call("first", put(Y, rest)))
        skipped = ("made", (SKIP, ("made", (SKIP, ("made", ())))))
        self.assertEqual(found[0][2], ("rule", 0, (("made", (AS, skipped)),), AS))
        names = (("x", "truth"), ("y", "truth"))
        found = only(LISTS, names, call("or", X, same(X, Y)), turns=1)
        self.assertEqual(found[0][:3], ((("x", YES), ("y", new(1))), YES, ("rule", 0, (AS, SKIP), ("made", ()))))

    def test_an_argument_shows_all_that_was_looked_at_by_whomever(self):
        # The argument is looked at by neither rule, but behind them, where the second one is.
        saying = call("first", call("twin", call("plus", NOUGHT, X)))
        found = only(NUMBERS, (("x", "num"),), saying)
        inner = ("rule", 0, (("made", ()), AS), AS)
        twin = ("rule", 0, (inner,), ("made", (AS, ("made", (AS, ("made", ()))))))
        self.assertEqual(found[0][2:4], (("rule", 0, (twin,), AS), 3))

    def test_eithers_and_sames(self):
        saying = same(either(X, NOUGHT), either(tower(2), Y))
        trees = {end[2]: end[1][2] for end in ends(NUMBERS, XY, saying) if end[0] == "done"}
        nought = ("made", ())
        self.assertEqual(trees[(0, 1, 0)], ("same", ("left", AS), ("right", AS)))
        self.assertEqual(trees[(1, 0)], ("same", ("right", nought), ("left", ("made", (nought,)))))
        self.assertEqual(trees[(1, 1, 0)], ("same", ("right", nought), ("right", AS)))

    def test_a_right_side_that_is_a_name_or_without_parts(self):
        self.assertEqual(only(LISTS, (("x", "truth"),), call("or", NO, X))[0][2], ("rule", 1, (("made", ()), AS), AS))
        saying = call("or", YES, X)
        self.assertEqual(only(LISTS, (("x", "truth"),), saying)[0][2], ("rule", 0, (("made", ()), AS), ("made", ())))

    def test_it_shows_the_value_and_has_the_turns_at_least(self):
        more = 0
        for program, names, saying, turns in many_askings():
            for fills, value, tree, used, log in only(program, names, saying, turns=turns):
                asked = filled(saying, fills)
                self.assertEqual(comes_to(program, asked, tree), value)
                self.assertGreaterEqual(tree_turns(program, asked, tree), used)
                more += tree_turns(program, asked, tree) > used
        self.assertGreater(more, 0)

    def test_more_turns_where_what_was_alike_was_filled_later(self):
        saying = call("both", same(X, Y), same(X, YES))
        names = (("x", "truth"), ("y", "truth"))
        found = [answer for answer in only(TRUTHS, names, saying) if answer[1] == YES]
        self.assertEqual(found[0][0], (("x", YES), ("y", YES)))
        self.assertEqual(found[0][3], 2)
        self.assertEqual(tree_turns(TRUTHS, filled(saying, found[0][0]), found[0][2]), 3)


class Logs(unittest.TestCase):
    def logs(self, program, names, saying, **named):
        return {end[2]: end[1][4] for end in ends(program, names, saying, **named) if end[0] == "done"}

    def test_fills_with_their_paths(self):
        logs = self.logs(NUMBERS, XY, call("plus", Y, X), turns=3)
        fills = (("fill", "y", (), "next"), ("fill", "y", (0,), "next"), ("fill", "y", (0, 0), "nought"))
        self.assertEqual(logs, {(0,): (("fill", "y", (), "nought"),), (1, 0): fills[:1] + (
            ("fill", "y", (0,), "nought"),), (1, 1, 0): fills})

    def test_two_made_alike(self):
        self.assertEqual(self.logs(NUMBERS, XY, same(X, Y))[(0,)], (("like", "x", (), "y", ()),))
        self.assertEqual(self.logs(NUMBERS, XY, same(Y, X))[(0,)], (("like", "y", (), "x", ()),))

    def test_two_made_unlike(self):
        names = (("x", "list"), ("y", "list"))
        logs = self.logs(LISTS, names, same(Y, X), turns=2)
        both = (("fill", "y", (), "put"), ("fill", "x", (), "put"))
        self.assertEqual(logs[(1,)], (("fill", "y", (), "end"), ("fill", "x", (), "put")))
        self.assertEqual(logs[(3, 0)], (*both, ("fill", "y", (0,), "nought"), ("fill", "x", (0,), "next")))
        self.assertEqual(logs[(4, 0)], (
            *both, ("like", "y", (0,), "x", (0,)), ("fill", "y", (1,), "end"), ("fill", "x", (1,), "put")))

    def test_told_by_first_places(self):
        # Behind the likening what stood at y alone stands at x, too, ahead of it.
        saying = call("both", same(Y, X), same(Y, YES))
        names = (("x", "truth"), ("y", "truth"))
        logs = self.logs(TRUTHS, names, saying)
        self.assertEqual(logs[(0, 0)], (("like", "y", (), "x", ()), ("fill", "x", (), "yes")))
        names = (("y", "truth"), ("x", "truth"))
        logs = self.logs(TRUTHS, names, saying)
        self.assertEqual(logs[(0, 0)], (("like", "y", (), "x", ()), ("fill", "y", (), "yes")))

    def test_first_places_within_one_name_and_of_both_that_become_alike(self):
        pair = ("pair", ("tree",), "truth", (
            ((made("fork", A, B, name("c")),), call("both", same(name("c"), B), same(B, A))),))
        both = ("both", ("truth", "truth"), "truth", (((YES, A), A), ((NO, A), NO)))
        program = Program(TREES.kinds, (pair, both))
        logs = self.logs(program, (("x", "tree"), ("y", "tree")), call("pair", X), turns=3)
        self.assertEqual(logs[(0, 0, 0)], (
            ("fill", "x", (), "fork"), ("like", "x", (2,), "x", (1,)), ("like", "x", (1,), "x", (0,))))
        saying = call("both", call("pair", X), same(Y, X))
        logs = self.logs(program, (("y", "tree"), ("x", "tree")), saying, turns=4)
        # Where y is filled to be compared with x, its parts are made alike with those of x.
        self.assertEqual(logs[(0, 0, 0, 1, 0, 0, 0)][3:], (
            ("fill", "y", (), "fork"), ("like", "y", (0,), "x", (0,)), ("like", "y", (1,), "y", (0,)),
            ("like", "y", (2,), "y", (0,))))

    def test_nothing_became_of_unknowns(self):
        self.assertEqual(self.logs(NUMBERS, XY, put(X, put(Y, END))), {(): ()})

    def test_gone_through_again_it_leads_to_the_fills(self):
        for program, names, saying, turns in many_askings():
            for fills, value, tree, used, log in only(program, names, saying, turns=turns):
                self.assertEqual(replayed(program, names, log), fills)


def replayed(program, names, log):
    """The fills to which a log leads; each entry is looked up where it says."""
    things = {word: ("open", at, kind) for at, (word, kind) in enumerate(names)}
    count = len(names)

    def swap(thing, old, new_thing):
        if thing == old:
            return new_thing
        return made(thing[1], *[swap(part, old, new_thing) for part in thing[2]]) if thing[0] == "made" else thing

    def at_place(word, path):
        thing = things[word]
        for step in path:
            thing = thing[2][step]
        assert thing[0] == "open"
        return thing

    def first_place(unknown):
        places = [(at, place) for at, (word, kind) in enumerate(names) for place in places_of(things[word], unknown)]
        at, place = min(places)
        return names[at][0], place

    for entry in log:
        first = at_place(*entry[1:3])
        assert first_place(first) == entry[1:3]
        if entry[0] == "fill":
            parts = []
            for kind in dict(program.makers(first[2]))[entry[3]]:
                parts.append(("open", count, kind))
                count += 1
            old, after = first, made(entry[3], *parts)
        else:
            old, after = at_place(*entry[3:]), first
            assert first_place(old) == entry[3:] and old != first
        things = {word: swap(thing, old, after) for word, thing in things.items()}
    numbers = {}

    def closed(thing):
        if thing[0] == "made":
            return made(thing[1], *[closed(part) for part in thing[2]])
        return name(numbers.setdefault(thing[1], str(len(numbers) + 1)))

    return tuple((word, closed(things[word])) for word, kind in names)


def places_of(thing, part):
    """The paths at which a part stands in a thing."""
    if thing == part:
        return [()]
    below = enumerate(thing[2]) if thing[0] == "made" else ()
    return [(at, *path) for at, inner in below for path in places_of(inner, part)]


class Answers(unittest.TestCase):
    def test_by_turns_then_by_choices(self):
        for program, names, saying, turns in many_askings():
            found = ends(program, names, saying, turns=turns)
            done = sorted((end[1][3], end[2]) for end in found if end[0] == "done")
            by_choices = {end[2]: end[1] for end in found if end[0] == "done"}
            due = []
            for used, choices in done:
                answer = by_choices[choices]
                if answer[:2] not in [earlier[:2] for earlier in due]:
                    due.append(answer)
            told, whole = answers(program, names, saying, turns=turns)
            self.assertIsInstance(told, tuple)
            self.assertEqual(told, tuple(due))
            self.assertIs(whole, "cut" not in [end[0] for end in found])

    def test_fewer_turns_ahead_of_lesser_choices(self):
        saying = either(call("plus", tower(3), X), either(call("plus", tower(2), X), X))
        told = only(NUMBERS, (("x", "num"),), saying)
        self.assertEqual([(answer[1], answer[3]) for answer in told], [
            (new(1), 0), (made("next", new(1)), 2), (made("next", made("next", new(1))), 3),
        ])

    def test_one_with_fills_and_value_of_an_earlier_one_is_passed_over(self):
        saying = either(call("plus", NOUGHT, X), either(X, X))
        told, whole = answers(NUMBERS, (("x", "num"),), saying)
        self.assertEqual(told, (((("x", new(1)),), new(1), ("right", ("left", AS)), 0, ()),))
        self.assertIs(whole, True)
        self.assertEqual(len(ends(NUMBERS, (("x", "num"),), saying)), 3)

    def test_the_same_fills_with_another_value_and_the_same_value_with_other_fills(self):
        self.assertEqual(len(only(NUMBERS, (("x", "num"),), either(X, NOUGHT))), 2)
        self.assertEqual(len(only(TRUTHS, (("x", "truth"),), call("or", X, YES))), 2)

    def test_whole_just_where_no_end_is_cut(self):
        self.assertEqual(answers(NUMBERS, (), call("loop", NOUGHT)), ((), False))
        self.assertEqual(answers(NUMBERS, (), call("first", END)), ((), True))
        self.assertIs(answers(NUMBERS, XY, same(call("plus", X, Y), tower(2)), turns=3)[1], False)
        self.assertIs(answers(NUMBERS, XY, same(call("plus", X, Y), tower(2)), turns=4)[1], True)
        self.assertIs(answers(NUMBERS, XY, call("plus", X, Y), turns=8)[1], False)

    def test_what_is_left_out(self):
        for program, names, saying in ASKINGS:
            self.assertEqual(answers(program, names, saying), answers(program, names, saying, turns=4, most=400))

    def test_refusals_in_their_order(self):
        wide, bad = same(X, Y), (("x", "none"),)
        for error, program, names, saying in (
                (BadNames, CLASHING, bad, Z), (BadSaying, CLASHING, XY, Z), (NoTable, CLASHING, XY, wide),
                (TooWide, NUMBERS, XY, wide), (BadNames, NUMBERS, [], wide), (BadSaying, NUMBERS, XY, None)):
            with self.assertRaises(error):
                answers(program, names, saying, most=1)
        with self.assertRaises(TooWide) as caught:
            answers(TREES, (("x", "tree"), ("y", "tree")), same(X, Y), turns=8)
        self.assertEqual(caught.exception.most, 400)

    def test_nothing_is_changed_and_it_is_told_alike_again(self):
        for program, names, saying in ASKINGS:
            before = copy.deepcopy((program.kinds, program.functions, names, saying))
            found = answers(program, names, saying)
            kept = copy.deepcopy(found)
            self.assertEqual(answers(program, names, saying), kept)
            self.assertEqual(found, kept)
            self.assertEqual((program.kinds, program.functions, names, saying), before)

    def test_a_program_over_truth_alone(self):
        names = (("x", "truth"), ("y", "truth"))
        told, whole = answers(TRUTHS, names, call("or", X, Y))
        self.assertIs(whole, True)
        self.assertEqual([answer[:2] for answer in told], [
            ((("x", YES), ("y", new(1))), YES), ((("x", NO), ("y", new(1))), new(1)),
        ])

    def test_an_empty_program(self):
        empty = Program((), ())
        names = (("x", "truth"),)
        self.assertEqual(answers(empty, names, same(X, YES)), ((
            ((("x", YES),), YES, ("same", AS, ("made", ())), 1, (("fill", "x", (), "yes"),)),
            ((("x", NO),), NO, ("same", AS, ("made", ())), 1, (("fill", "x", (), "no"),)),
        ), True))


if __name__ == "__main__":
    unittest.main()

"""Points 14 to 18: ways, splits, fillings, turns, and the ends of an asking."""

import copy
import unittest

from needfill.errors import BadNames, BadSaying, NoTable, TooWide
from needfill.plain import TURNS
from needfill.programs import Program
from needfill.ways import MOST, ends
from tests.books import (
    AS, ASKINGS, CLASHING, END, LEAF, LISTS, NO, NUMBERS, SKIP, TREES, TRUTHS, W, X, XY, Y, YES, Z, fork, new,
)
from tests.byword import ends_by_words
from tests.dice import Thrown
from tests.samples import A, B, C, D, LIST, NOUGHT, NUM, call, either, made, name, nothings, same, tower

UNIT_PAIR = (("x", "unit"), ("y", "unit"))
ONLY = made("only")


def rows(program, names, saying, **named):
    """The ends in short: a done one by its fills' things, value and turns, the others as they are, with choices."""
    short = []
    for end in ends(program, names, saying, **named):
        if end[0] == "done":
            fills, value, tree, turns, log = end[1]
            short.append(("done", tuple(thing for word, thing in fills), value, turns, end[2]))
        else:
            short.append(end)
    return short


def put(one, rest):
    return made("put", one, rest)


class Looks(unittest.TestCase):
    def test_the_constant(self):
        self.assertEqual(MOST, 400)

    def test_a_name_and_a_made(self):
        self.assertEqual(ends(NUMBERS, XY, Y), (("done", ((("x", new(1)), ("y", new(2))), new(2), AS, 0, ()), ()),))
        due = ("done", ((("x", new(1)), ("y", new(2))), put(new(2), END), ("made", (AS, ("made", ()))), 0, ()), ())
        self.assertEqual(ends(NUMBERS, XY, put(Y, END), turns=0), (due,))

    def test_unknowns_are_filled_as_they_are_looked_at(self):
        self.assertEqual(rows(NUMBERS, XY, call("plus", X, Y), turns=2), [
            ("done", (NOUGHT, new(1)), new(1), 1, (0,)),
            ("done", (tower(2), new(1)), made("next", new(1)), 2, (1, 0)),
            ("cut", (1, 1, 0)),
            ("cut", (1, 1, 1)),
        ])

    def test_the_least_path_is_looked_at_first(self):
        pair = ("pair", ("num", "num"), "truth", (((NOUGHT, NOUGHT), YES), ((made("next", A), made("next", B)), NO)))
        program = Program((NUM,), (pair,))
        self.assertEqual(rows(program, XY, call("pair", X, Y)), [
            ("done", (NOUGHT, NOUGHT), YES, 1, (0, 0)),
            ("done", (made("next", new(1)), made("next", new(2))), NO, 1, (1, 0)),
        ])
        log = ends(program, XY, call("pair", X, Y))[0][1][4]
        self.assertEqual(log, (("fill", "x", (), "nought"), ("fill", "y", (), "nought")))
        log = ends(program, XY, call("pair", Y, X))[0][1][4]
        self.assertEqual(log, (("fill", "y", (), "nought"), ("fill", "x", (), "nought")))

    def test_a_look_that_comes_later_at_a_lesser_path(self):
        # At first only the second argument can be looked at; behind it the first one.
        rules = (((A, NOUGHT), NO), ((NOUGHT, made("next", B)), YES), ((made("next", A), made("next", B)), NO))
        program = Program((NUM,), (("f", ("num", "num"), "truth", rules),))
        self.assertEqual(rows_log(program, XY, call("f", X, Y)), [
            (("fill", "y", (), "nought"),),
            (("fill", "y", (), "next"), ("fill", "x", (), "nought")),
            (("fill", "y", (), "next"), ("fill", "x", (), "next")),
        ])

    def test_makers_in_the_kinds_order_whatever_the_rules_order(self):
        turned = ("f", ("num",), "truth", (((made("next", A),), YES), ((NOUGHT,), NO)))
        self.assertEqual(rows(Program((NUM,), (turned,)), (("x", "num"),), call("f", X)), [
            ("done", (NOUGHT,), NO, 1, (0,)),
            ("done", (made("next", new(1)),), YES, 1, (1,)),
        ])

    def test_options_are_numbered_by_the_branches(self):
        self.assertEqual(rows(NUMBERS, (("x", "list"),), call("first", X)), [
            ("done", (put(new(1), new(2)),), new(1), 1, (0,)),
        ])
        self.assertEqual(rows(LISTS, XY, call("less", X, Y), turns=2), [
            ("done", (NOUGHT, made("next", new(1))), YES, 1, (0, 0)),
            ("done", (tower(2), made("next", made("next", new(1)))), YES, 2, (1, 0, 0, 0)),
            ("cut", (1, 0, 1, 0, 0, 0)),
            ("cut", (1, 0, 1, 0, 1, 0)),
        ])

    def test_dead_where_there_is_no_branch(self):
        self.assertEqual(ends(NUMBERS, (), call("first", END)), (("dead", 0, ()),))
        self.assertEqual(ends(NUMBERS, XY, call("half", tower(4))), (("dead", 1, ()),))
        self.assertEqual(rows(NUMBERS, (("x", "num"),), same(X, call("half", X)), turns=3), [
            ("done", (NOUGHT,), YES, 2, (0,)),
            ("cut", (1, 0, 0)),
            ("cut", (1, 0, 1, 0)),
        ])
        self.assertEqual(rows(LISTS, (("x", "num"),), call("less", X, NOUGHT)), [("dead", 0, (0,)), ("dead", 0, (1,))])

    def test_a_dead_way_tells_the_turns_it_used(self):
        saying = call("first", either(END, call("twin", call("half", tower(2)))))
        self.assertEqual(ends(NUMBERS, (), saying), (("dead", 0, (0,)), ("dead", 2, (1,))))

    def test_an_either_in_order(self):
        saying = either(either(X, NOUGHT), Y)
        self.assertEqual(rows(NUMBERS, XY, saying), [
            ("done", (new(1), new(2)), new(1), 0, (0, 0)),
            ("done", (new(1), new(2)), NOUGHT, 0, (0, 1)),
            ("done", (new(1), new(2)), new(2), 0, (1,)),
        ])

    def test_an_either_is_one_side_wherever_it_is_looked_at(self):
        self.assertEqual(rows(NUMBERS, (("x", "num"),), call("twin", either(X, NOUGHT))), [
            ("done", (new(1),), put(new(1), put(new(1), END)), 1, (0,)),
            ("done", (new(1),), put(NOUGHT, put(NOUGHT, END)), 1, (1,)),
        ])

    def test_a_name_that_stands_twice_is_one_unknown(self):
        self.assertEqual(rows(NUMBERS, (("x", "num"),), call("plus", X, X), turns=3), [
            ("done", (NOUGHT,), NOUGHT, 1, (0,)),
            ("done", (tower(2),), tower(3), 2, (1, 0)),
            ("done", (tower(3),), tower(5), 3, (1, 1, 0)),
            ("cut", (1, 1, 1, 0)),
            ("cut", (1, 1, 1, 1)),
        ])
        self.assertEqual(rows(NUMBERS, (("x", "num"),), put(X, put(X, END)))[0][2], put(new(1), put(new(1), END)))

    def test_parts_are_finished_one_after_another(self):
        saying = put(call("plus", X, NOUGHT), put(call("plus", Y, NOUGHT), END))
        self.assertEqual(rows(NUMBERS, XY, saying, turns=2), [
            ("done", (NOUGHT, NOUGHT), put(NOUGHT, put(NOUGHT, END)), 2, (0, 0)),
            ("cut", (0, 1, 0)),
            ("cut", (0, 1, 1)),
            ("cut", (1, 0, 0)),
            ("cut", (1, 0, 1)),
            ("cut", (1, 1, 0)),
            ("cut", (1, 1, 1)),
        ])

    def test_an_unknown_that_is_filled_by_a_later_part(self):
        saying = put(X, put(call("plus", X, NOUGHT), END))
        self.assertEqual(rows(NUMBERS, (("x", "num"),), saying, turns=1), [
            ("done", (NOUGHT,), put(NOUGHT, put(NOUGHT, END)), 1, (0,)),
            ("cut", (1, 0)),
            ("cut", (1, 1)),
        ])


def rows_log(program, names, saying, **named):
    """The logs of the ends that are done."""
    return [end[1][4] for end in ends(program, names, saying, **named) if end[0] == "done"]


class Cuts(unittest.TestCase):
    def test_each_option_of_a_split_is_an_end_where_its_turn_is_cut(self):
        self.assertEqual(ends(NUMBERS, XY, call("plus", X, Y), turns=0), (("cut", (0,)), ("cut", (1,))))
        self.assertEqual(ends(NUMBERS, XY, same(X, NOUGHT), turns=0), (("cut", (0,)), ("cut", (1,))))
        self.assertEqual(ends(NUMBERS, XY, same(NOUGHT, Y), turns=0), (("cut", (0,)), ("cut", (1,))))
        found = ends(NUMBERS, XY, same(X, Y), turns=0)
        self.assertEqual([end[0] for end in found], ["done", "cut", "cut", "cut"])
        self.assertEqual([end[-1] for end in found], [(0,), (1,), (2,), (3,)])

    def test_a_call_without_a_look(self):
        self.assertEqual(ends(NUMBERS, XY, call("loop", X), turns=0), (("cut", ()),))
        self.assertEqual(ends(NUMBERS, XY, call("loop", X), turns=8), (("cut", ()),))
        self.assertEqual(ends(NUMBERS, XY, call("twin", X), turns=0), (("cut", ()),))

    def test_sides_of_an_either_by_themselves(self):
        self.assertEqual(ends(NUMBERS, (), either(call("loop", NOUGHT), call("some")), turns=1), (
            ("cut", (0,)),
            ("done", ((), NOUGHT, ("right", ("rule", 0, (), ("left", ("made", ())))), 1, ()), (1, 0)),
            ("cut", (1, 1)),
        ))

    def test_the_turns_that_are_left_out(self):
        self.assertEqual(TURNS, 4)
        for program, names, saying in ASKINGS:
            self.assertEqual(ends(program, names, saying), ends(program, names, saying, turns=4, most=400))


class Sames(unittest.TestCase):
    def test_an_unknown_with_itself(self):
        due = [("done", (new(1),), YES, 0, ())]
        self.assertEqual(rows(NUMBERS, (("x", "num"),), same(X, X), turns=0), due)
        self.assertEqual(rows(NUMBERS, (("x", "num"),), same(made("next", X), made("next", X)), turns=0), [("cut", ())])
        self.assertEqual(
            rows(NUMBERS, (("x", "num"),), same(made("next", X), made("next", X)), turns=1),
            [("done", (new(1),), YES, 1, ())])

    def test_an_unknown_and_a_thing_in_either_order(self):
        for saying in (same(X, tower(2)), same(tower(2), X)):
            self.assertEqual(rows(NUMBERS, (("x", "num"),), saying), [
                ("done", (NOUGHT,), NO, 1, (0,)),
                ("done", (tower(2),), YES, 2, (1, 0)),
                ("done", (made("next", made("next", new(1))),), NO, 2, (1, 1)),
            ])
        for saying in (same(X, NO), same(NO, X)):
            self.assertEqual(rows(TRUTHS, (("x", "truth"),), saying), [
                ("done", (YES,), NO, 1, (0,)), ("done", (NO,), YES, 1, (1,)),
            ])

    def test_two_unknowns_in_either_order(self):
        far = made("next", made("next", new(1)))
        first = [
            ("done", (new(1), new(1)), YES, 0, (0,)),
            ("done", (NOUGHT, made("next", new(1))), NO, 1, (1,)),
            ("done", (made("next", new(1)), NOUGHT), NO, 1, (2,)),
            ("done", (tower(2), far), NO, 2, (3, 0)),
            ("done", (far, tower(2)), NO, 2, (3, 1)),
            ("cut", (3, 2, 0)), ("cut", (3, 2, 1)), ("cut", (3, 2, 2)),
        ]
        self.assertEqual(rows(NUMBERS, XY, same(X, Y), turns=2), first)
        turned = [(end[0], end[1][::-1], *end[2:]) if end[0] == "done" else end for end in first]
        self.assertEqual(rows(NUMBERS, XY, same(Y, X), turns=2), turned)

    def test_two_unknowns_with_the_parts_ahead_alike(self):
        names = (("x", "tree"), ("y", "tree"))
        found = {end[-1]: end for end in rows(TREES, names, same(X, Y), turns=2)}
        self.assertEqual(found[(0,)], ("done", (new(1), new(1)), YES, 0, (0,)))
        self.assertEqual(found[(1,)], ("done", (LEAF, fork(new(1), new(2), new(3))), NO, 1, (1,)))
        self.assertEqual(found[(2,)], ("done", (fork(new(1), new(2), new(3)), LEAF), NO, 1, (2,)))
        inner = fork(new(3), new(4), new(5))
        self.assertEqual(found[(3, 0)][1], (fork(LEAF, new(1), new(2)), fork(inner, new(6), new(7))))
        self.assertEqual(found[(4, 0)][1], (fork(new(1), LEAF, new(2)), fork(new(1), inner, new(6))))
        self.assertEqual(found[(5, 0)][1], (fork(new(1), new(2), LEAF), fork(new(1), new(2), inner)))
        self.assertEqual(found[(5, 1)][1], (fork(new(1), new(2), inner), fork(new(1), new(2), LEAF)))
        self.assertEqual(found[(3, 1)][1][0], fork(fork(new(1), new(2), new(3)), new(4), new(5)))
        self.assertEqual(sorted(found), [(0,), (1,), (2,)] + [
            (at, *rest) for at in (3, 4, 5)
            for rest in ((0,), (1,), (2, 0), (2, 1), (2, 2), (2, 3), (2, 4), (3, 0), (3, 1), (3, 2), (3, 3), (3, 4),
                         (4, 0), (4, 1), (4, 2), (4, 3), (4, 4))])

    def test_unknowns_that_cannot_be_unlike(self):
        self.assertEqual(rows(TREES, UNIT_PAIR, same(X, Y)), [("done", (new(1), new(1)), YES, 0, (0,))])
        names = (("x", "knot"), ("y", "knot"))
        found = rows(TREES, names, same(X, Y), turns=2)
        # Two of wrap are unlike by their only part, which is a unit: no option leads on.
        self.assertEqual(found[:3], [
            ("done", (new(1), new(1)), YES, 0, (0,)),
            ("dead", 1, (1,)),
            ("done", (made("wrap", new(1)), made("tie", new(2), new(3))), NO, 1, (2,)),
        ])
        self.assertEqual([end for end in found if end[0] == "dead"], [
            ("dead", 1, (1,)), ("dead", 1, (4,)), ("dead", 2, (5, 0)), ("dead", 2, (5, 3)),
        ])
        self.assertEqual([end[-1] for end in found if end[0] == "cut"], [(5, 4, at) for at in range(5)])
        pair = (made("tie", new(1), made("wrap", new(2))), made("tie", new(1), made("tie", new(3), new(4))))
        self.assertIn(("done", pair, NO, 2, (5, 1)), found)

    def test_a_turn_that_is_cut_ahead_of_a_split_without_options(self):
        names = (("x", "knot"), ("y", "knot"))
        found = rows(TREES, names, same(X, Y), turns=0)
        self.assertEqual([end[0] for end in found], ["done"] + ["cut"] * 5)

    def test_a_pair_is_looked_at_ahead_of_the_next_and_no_farther_than_the_first_no(self):
        saying = same(put(X, put(call("loop", X), END)), put(NOUGHT, END))
        self.assertEqual(rows(NUMBERS, (("x", "num"),), saying, turns=3), [
            ("done", (NOUGHT,), NO, 3, (0,)),
            ("done", (made("next", new(1)),), NO, 2, (1,)),
        ])

    def test_a_sides_unknown_may_be_filled_while_the_other_is_looked_at(self):
        self.assertEqual(rows(NUMBERS, (("x", "num"),), same(X, call("plus", X, NOUGHT)), turns=2), [
            ("done", (NOUGHT,), YES, 2, (0,)), ("cut", (1, 0)), ("cut", (1, 1)),
        ])

    def test_of_truths(self):
        names = (("x", "truth"), ("y", "truth"))
        self.assertEqual(rows(TRUTHS, names, same(X, Y)), [
            ("done", (new(1), new(1)), YES, 0, (0,)),
            ("done", (YES, NO), NO, 1, (1,)),
            ("done", (NO, YES), NO, 1, (2,)),
        ])
        names = (("x", "truth"), ("y", "truth"), ("z", "truth"))
        self.assertEqual(rows(TRUTHS, names, same(same(X, Y), Z)), [
            ("done", (new(1), new(1), YES), YES, 1, (0, 0)),
            ("done", (new(1), new(1), NO), NO, 1, (0, 1)),
            ("done", (YES, NO, YES), NO, 2, (1, 0)),
            ("done", (YES, NO, NO), YES, 2, (1, 1)),
            ("done", (NO, YES, YES), NO, 2, (2, 0)),
            ("done", (NO, YES, NO), YES, 2, (2, 1)),
        ])


class Order(unittest.TestCase):
    def test_as_told_by_words_for_many_programs(self):
        heads = {}
        for program, names, saying in ASKINGS:
            for turns in range(5):
                self.alike(program, names, saying, turns, heads)
        for seed in range(160):
            thrown = Thrown(seed)
            for step in range(3):
                names, saying = thrown.asking()
                for turns in (0, 1, 3, 5):
                    self.alike(thrown.program, names, saying, turns, heads)
        self.assertGreater(min(heads[word] for word in ("done", "dead", "cut", "fill", "like")), 100)

    def alike(self, program, names, saying, turns, heads):
        due = ends_by_words(program, names, saying, turns)
        if due is None:
            with self.assertRaises(TooWide):
                ends(program, names, saying, turns=turns)
            return
        self.assertEqual(ends(program, names, saying, turns=turns), due)
        for end in due:
            words = [end[0]] + [entry[0] for entry in (end[1][4] if end[0] == "done" else ())]
            for word in words:
                heads[word] = heads.get(word, 0) + 1

    def test_choices_rise(self):
        for program, names, saying in ASKINGS:
            choices = [end[-1] for end in ends(program, names, saying, turns=3)]
            self.assertEqual(choices, sorted(set(choices)))

    def test_ends_are_tuples_of_plain_values(self):
        for program, names, saying in ASKINGS:
            found = ends(program, names, saying)
            self.assertIsInstance(found, tuple)
            for end in found:
                self.assertTrue(all_plain(end), end)
                self.assertEqual(len(end), {"done": 3, "dead": 3, "cut": 2}[end[0]])


def all_plain(thing):
    """Whether it is made of tuples, texts and whole numbers."""
    if isinstance(thing, tuple):
        return all(all_plain(part) for part in thing)
    return type(thing) in (str, int)


class Width(unittest.TestCase):
    def test_just_so_many_and_one_beyond(self):
        for program, names, saying in ASKINGS:
            found = ends(program, names, saying, turns=2)
            many = len(found)
            self.assertEqual(ends(program, names, saying, turns=2, most=many), found)
            for fewer in {many - 1, many // 2, 1} - {0, many}:
                with self.assertRaises(TooWide) as caught:
                    ends(program, names, saying, turns=2, most=fewer)
                self.assertEqual(caught.exception.most, fewer)

    def test_an_asking_with_far_too_many(self):
        names = (("x", "tree"), ("y", "tree"))
        with self.assertRaises(TooWide) as caught:
            ends(TREES, names, same(X, Y), turns=8)
        self.assertEqual(caught.exception.most, 400)

    def test_four_hundred_and_one_more(self):
        twenty = Program((("pair", (("two", ("truth", "truth", "pair")), ("stop", ()))),), (
            ("a", (), "truth", (((), either(either(YES, NO), either(YES, either(NO, YES)))),)),
            ("b", (), "truth", (((), either(either(YES, NO), either(YES, NO))),)),
        ))
        # Ways of 5, 4, 5 and 4 sides are just 400.
        saying = made("two", call("a"), call("b"), made("two", call("a"), call("b"), made("stop")))
        self.assertEqual(len(ends(twenty, (), saying)), 400)
        with self.assertRaises(TooWide) as caught:
            ends(twenty, (), either(saying, made("stop")))
        self.assertEqual(caught.exception.most, 400)


class Refusals(unittest.TestCase):
    def refused(self, error, program, names, saying, **named):
        with self.assertRaises(error) as caught:
            ends(program, names, saying, **named)
        return caught.exception

    def test_names(self):
        for names in (*nothings(), (("x",),), (("x", "num"), ("x", "num")), (("nought", "num"),), (("plus", "num"),),
                      (("x", "none"),), XY + XY, tuple((word, "num") for word in "vwxyz"), (("1", "num"),)):
            self.refused(BadNames, NUMBERS, names, NOUGHT)

    def test_sayings(self):
        for saying in nothings():
            self.assertEqual(self.refused(BadSaying, NUMBERS, XY, saying).path, ())
        self.assertEqual(self.refused(BadSaying, NUMBERS, XY, SKIP).path, ())
        self.assertEqual(self.refused(BadSaying, NUMBERS, XY, call("plus", X, Z)).path, (1,))
        self.assertEqual(self.refused(BadSaying, NUMBERS, XY, same(X, put(Y, END))).path, (1,))
        self.assertEqual(self.refused(BadSaying, NUMBERS, XY, tower(9)).path, ())

    def test_tables(self):
        for saying in (NOUGHT, X, call("plus", X, Y), call("also", X, Y)):
            error = self.refused(NoTable, CLASHING, XY, saying)
            self.assertEqual((error.function, error.clash), ("clashes", ("clash", (new(1),), (0, 1))))

    def test_their_order(self):
        wide = same(X, Y)
        bad_names = (("x", "none"),)
        self.refused(BadNames, CLASHING, bad_names, Z, most=1)
        self.assertEqual(self.refused(BadSaying, CLASHING, XY, Z, most=1).path, ())
        self.refused(NoTable, CLASHING, XY, wide, most=1)
        self.refused(TooWide, NUMBERS, XY, wide, most=1)
        self.refused(BadNames, NUMBERS, bad_names, wide, most=1)
        self.refused(BadNames, CLASHING, bad_names, wide, most=1)
        self.refused(BadSaying, NUMBERS, XY, same(X, W), most=1)

    def test_nothing_is_changed_and_it_is_told_alike_again(self):
        for program, names, saying in ASKINGS:
            before = copy.deepcopy((program.kinds, program.functions, names, saying))
            found = ends(program, names, saying)
            kept = copy.deepcopy(found)
            self.assertEqual(ends(program, names, saying), kept)
            self.assertEqual(found, kept)
            self.assertEqual((program.kinds, program.functions, names, saying), before)


if __name__ == "__main__":
    unittest.main()

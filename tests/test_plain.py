"""Point 13: plain reckoning by need."""

import copy
import unittest

from needfill.errors import NoTable
from needfill.forms import filled
from needfill.judge import comes_to, tree_turns
from needfill.plain import SIZE, TURNS, fillings, reckon
from needfill.tables import clash_stands
from needfill.ways import ends
from tests.books import AS, ASKINGS, CLASHING, END, LEAF, LISTS, NO, NUMBERS, SKIP, TREES, TRUTHS, YES, fork
from tests.byword import ends_by_words
from tests.dice import Thrown
from tests.samples import NOUGHT, call, either, made, same, tower


def by_choices(program, saying, turns, choices=()):
    """All that a saying comes to, by every row of choices that is wanted, in order: (choices, what is told)."""
    told = reckon(program, saying, choices, turns=turns)
    if told != ("choice",):
        return [(choices, told)]
    return [row for option in (0, 1) for row in by_choices(program, saying, turns, (*choices, option))]


def as_ends(rows):
    """What reckon tells, as ends tells it."""
    found = []
    for choices, told in rows:
        if told[0] == "done":
            head, value, tree, turns, used = told
            found.append(("done", ((), value, tree, turns, ()), choices))
        elif told[0] == "dead":
            found.append(("dead", told[1], choices))
        else:
            found.append(("cut", choices))
    return tuple(found)


def plain_sayings():
    """Programs with sayings without names."""
    for program, names, saying in ASKINGS:
        for fills in fillings(program, names, size=2)[:9]:
            yield program, filled(saying, fills)
    for seed in range(200):
        thrown = Thrown(seed)
        for step in range(3):
            names, saying = thrown.asking()
            for fills in fillings(thrown.program, names, size=3)[:40:7]:
                yield thrown.program, filled(saying, fills)


class Reckon(unittest.TestCase):
    def told(self, saying, due, choices=(), program=NUMBERS, **named):
        self.assertEqual(reckon(program, saying, choices, **named), due)

    def test_the_constants(self):
        self.assertEqual((TURNS, SIZE), (4, 3))

    def test_done(self):
        self.told(NOUGHT, ("done", NOUGHT, ("made", ()), 0, 0))
        self.told(call("plus", NOUGHT, tower(2)), (
            "done", tower(2), ("rule", 0, (("made", ()), ("made", (("made", ()),))), AS), 1, 0))
        inner = ("rule", 0, (AS, AS), AS)
        tree = ("rule", 1, (("made", (("made", ()),)), ("made", ())), ("made", (inner,)))
        self.told(call("plus", tower(2), NOUGHT), ("done", tower(2), tree, 2, 0))

    def test_a_mades_parts_are_finished(self):
        one = ("rule", 0, (("made", ()), ("made", ())), AS)
        saying = made("put", call("plus", NOUGHT, NOUGHT), made("put", call("plus", NOUGHT, NOUGHT), END))
        due = made("put", NOUGHT, made("put", NOUGHT, END))
        self.told(saying, ("done", due, ("made", (one, ("made", (one, ("made", ()))))), 2, 0))
        self.told(saying, ("cut", 0), turns=1)

    def test_dead(self):
        self.told(call("first", END), ("dead", 0, 0))
        self.told(call("half", tower(2)), ("dead", 0, 0))
        self.told(call("half", tower(4)), ("dead", 1, 0))
        self.told(made("put", call("plus", NOUGHT, NOUGHT), made("put", call("first", END), END)), ("dead", 1, 0))
        self.told(call("first", either(END, END)), ("dead", 0, 1), (1,))

    def test_cut(self):
        for turns in range(9):
            self.told(call("loop", NOUGHT), ("cut", 0), turns=turns)
        self.told(call("loop", NOUGHT), ("cut", 0))
        self.told(call("some"), ("cut", 2), (1, 1), turns=2)

    def test_by_the_turns_that_are_wanted_and_fewer(self):
        for many in range(1, 8):
            saying = call("plus", tower(many), NOUGHT)
            for turns in range(9):
                told = reckon(NUMBERS, saying, (), turns=turns)
                self.assertEqual(told[0], "done" if turns >= many else "cut")
                if told[0] == "done":
                    self.assertEqual((told[1], told[3]), (tower(many), many))
            self.assertEqual(reckon(NUMBERS, saying, ()), reckon(NUMBERS, saying, (), turns=4))
        self.assertEqual(reckon(NUMBERS, call("plus", tower(4), NOUGHT), ())[0], "done")
        self.assertEqual(reckon(NUMBERS, call("plus", tower(5), NOUGHT), ())[0], "cut")

    def test_dead_by_the_turns_that_are_wanted(self):
        for turns in range(9):
            self.told(call("half", tower(6)), ("dead", 2, 0) if turns >= 2 else ("cut", 0), turns=turns)

    def test_choices(self):
        saying = either(NOUGHT, either(tower(2), tower(3)))
        self.told(saying, ("choice",))
        self.told(saying, ("choice",), (1,))
        nought = ("made", ())
        self.told(saying, ("done", NOUGHT, ("left", nought), 0, 1), (0,))
        self.told(saying, ("done", tower(2), ("right", ("left", ("made", (nought,)))), 0, 2), (1, 0))
        self.told(saying, ("done", tower(3), ("right", ("right", ("made", (("made", (nought,)),)))), 0, 2), (1, 1))

    def test_more_choices_than_are_wanted_are_passed_over(self):
        saying = either(NOUGHT, call("half", tower(2)))
        for more in ((), (0,), (1,), (1, 0, 1), (0,) * 50):
            self.told(saying, ("done", NOUGHT, ("left", ("made", ())), 0, 1), (0, *more))
            self.told(saying, ("dead", 0, 1), (1, *more))
            self.told(NOUGHT, ("done", NOUGHT, ("made", ()), 0, 0), more)
            self.told(call("loop", either(NOUGHT, NOUGHT)), ("cut", 0), more)

    def test_a_choice_that_is_wanted_ahead_of_the_turn_that_is_too_much(self):
        saying = call("plus", either(NOUGHT, tower(2)), NOUGHT)
        self.told(saying, ("choice",), turns=0)
        self.told(saying, ("cut", 1), (0,), turns=0)
        self.told(call("some"), ("cut", 0), turns=0)
        self.told(call("some"), ("choice",), turns=1)
        self.told(call("some"), ("cut", 1), (1,), turns=1)
        self.told(call("some"), ("choice",), (1,), turns=2)

    def test_an_argument_that_stands_twice_is_reckoned_once(self):
        saying = call("twin", call("plus", tower(2), NOUGHT))
        told = reckon(NUMBERS, saying, (), turns=3)
        self.assertEqual(told[:2], ("done", made("put", tower(2), made("put", tower(2), END))))
        self.assertEqual(told[3:], (3, 0))
        self.assertEqual(told[2][3], ("made", (AS, ("made", (AS, ("made", ()))))))
        self.told(saying, ("cut", 0), turns=2)
        one = call("twin", either(NOUGHT, tower(2)))
        self.assertEqual(reckon(NUMBERS, one, (0, 1))[1], made("put", NOUGHT, made("put", NOUGHT, END)))
        self.assertEqual(reckon(NUMBERS, one, (1, 0))[1], made("put", tower(2), made("put", tower(2), END)))
        self.assertEqual(reckon(NUMBERS, one, (1, 0))[4], 1)

    def test_what_is_not_looked_at_is_not_reckoned(self):
        endless, dead, split = call("loop", NOUGHT), call("half", tower(2)), either(NOUGHT, NOUGHT)
        for rest in (made("put", endless, END), made("put", dead, END), made("put", split, END)):
            told = reckon(NUMBERS, call("first", made("put", NOUGHT, rest)), (), turns=1)
            tree = ("rule", 0, (("made", (("made", ()), ("made", (SKIP, ("made", ()))))),), AS)
            self.assertEqual(told, ("done", NOUGHT, tree, 1, 0))
        told = reckon(LISTS, call("or", YES, same(tower(9), tower(9))), ())
        self.assertEqual(told, ("done", YES, ("rule", 0, (("made", ()), SKIP), ("made", ())), 1, 0))

    def test_an_argument_is_reckoned_as_far_as_it_is_looked_at(self):
        inner = call("plus", call("plus", tower(3), NOUGHT), NOUGHT)
        told = reckon(NUMBERS, same(inner, NOUGHT), ())
        tree = ("rule", 1, (("rule", 1, (("made", (("made", (("made", ()),)),)), ("made", ())), ("made", (SKIP,))),
                            ("made", ())), ("made", (SKIP,)))
        self.assertEqual(told, ("done", NO, ("same", tree, ("made", ())), 3, 0))

    def test_same(self):
        self.told(same(tower(2), tower(2)), ("done", YES, ("same", *[("made", (("made", ()),))] * 2), 2, 0))
        self.assertEqual(reckon(NUMBERS, same(tower(3), tower(2)), ())[1:4:2], (NO, 2))
        self.assertEqual(reckon(NUMBERS, same(tower(9), NOUGHT), ())[1:4:2], (NO, 1))
        self.told(same(tower(5), tower(5)), ("cut", 0))
        self.assertEqual(reckon(NUMBERS, same(tower(5), tower(5)), (), turns=5)[1:4:2], (YES, 5))
        told = reckon(TREES, same(fork(LEAF, LEAF, LEAF), fork(LEAF, fork(*[LEAF] * 3), LEAF)), ())
        self.assertEqual(told[1:4:2], (NO, 3))

    def test_a_sames_first_side_is_looked_at_first(self):
        self.told(same(call("loop", NOUGHT), call("first", END)), ("cut", 0))
        self.told(same(call("first", END), call("loop", NOUGHT)), ("dead", 0, 0))
        saying = same(either(NOUGHT, tower(2)), either(NOUGHT, tower(2)))
        self.assertEqual(reckon(NUMBERS, saying, (0, 1))[1:4:2], (NO, 1))
        self.assertEqual(reckon(NUMBERS, saying, (1, 1))[1:4:2], (YES, 2))
        self.told(saying, ("choice",), (1,))

    def test_truths_alone(self):
        told = reckon(TRUTHS, call("or", call("turn", YES), call("turn", NO)), ())
        self.assertEqual((told[0], told[1], told[3], told[4]), ("done", YES, 3, 0))

    def test_trees_and_turns_of_many(self):
        count = 0
        for program, saying in plain_sayings():
            for choices, told in by_choices(program, saying, 5):
                if told[0] == "done":
                    head, value, tree, turns, used = told
                    self.assertEqual(comes_to(program, saying, tree), value)
                    self.assertEqual(tree_turns(program, saying, tree), turns)
                    self.assertEqual(used, len(choices))
                    count += 1
        self.assertGreater(count, 500)

    def test_by_more_turns_what_was_done_or_dead_is_the_same(self):
        for program, saying in plain_sayings():
            for choices, told in by_choices(program, saying, 3):
                for turns in (4, 6):
                    more = reckon(program, saying, choices, turns=turns)
                    if told[0] == "cut":
                        self.assertIn(more[0], ("done", "dead", "cut", "choice"))
                        self.assertTrue(more[0] in ("cut", "choice") or more[-2] > 3)
                    else:
                        self.assertEqual(more, told)

    def test_the_ends_by_each_row_of_choices(self):
        heads = set()
        for program, saying in plain_sayings():
            for turns in (0, 2, 4):
                due = as_ends(by_choices(program, saying, turns))
                self.assertEqual(ends(program, (), saying, turns=turns), due)
                self.assertEqual(ends_by_words(program, (), saying, turns), due)
                heads.update(end[0] for end in due)
        self.assertEqual(heads, {"done", "dead", "cut"})

    def test_no_table_be_it_called_or_not(self):
        for saying in (NOUGHT, call("plus", NOUGHT, NOUGHT), call("clashes", NOUGHT), call("also", NOUGHT, NOUGHT)):
            for turns in (0, 4, 8):
                with self.assertRaises(NoTable) as caught:
                    reckon(CLASHING, saying, (), turns=turns)
                self.assertEqual(caught.exception.function, "clashes")
                self.assertEqual(caught.exception.clash, ("clash", (("name", "1"),), (0, 1)))
                self.assertTrue(clash_stands(CLASHING, "clashes", caught.exception.clash))

    def test_nothing_is_changed_and_it_is_told_alike_again(self):
        whole = copy.deepcopy((NUMBERS.kinds, NUMBERS.functions))
        saying = call("twin", either(call("plus", tower(2), NOUGHT), NOUGHT))
        told = reckon(NUMBERS, saying, (0,))
        kept = copy.deepcopy(told)
        for choices in ((0,), (1,), ()):
            reckon(NUMBERS, saying, choices)
        self.assertEqual(reckon(NUMBERS, saying, (0,)), kept)
        self.assertEqual(told, kept)
        self.assertEqual((NUMBERS.kinds, NUMBERS.functions), whole)


if __name__ == "__main__":
    unittest.main()

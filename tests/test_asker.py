"""Point 21: an asker, which tells answers one by one."""

import copy
import unittest

from needfill.answers import answers
from needfill.asker import Asker
from needfill.errors import BadNames, BadSaying, BadTurns, Cut, NoMore, NoTable, TooWide
from tests.books import ASKINGS, CLASHING, END, NUMBERS, TREES, X, XY, Y, Z, new
from tests.dice import Thrown
from tests.samples import NOUGHT, call, either, made, nothings, same, tower

PLUS = (NUMBERS, XY, call("plus", X, Y))


def all_told(asker):
    """All that an asker tells, and the refusal with which it ends."""
    found = []
    while True:
        try:
            found.append(asker.tell())
        except (NoMore, Cut) as error:
            return found, error


def askings():
    yield from ASKINGS
    for seed in range(60):
        thrown = Thrown(seed)
        for step in range(2):
            yield thrown.program, *thrown.asking()


class Tells(unittest.TestCase):
    def test_the_methods_are_the_class_s_own(self):
        for method in ("__init__", "tell", "told", "widen", "limit", "__len__"):
            self.assertIn(method, vars(Asker))

    def test_one_by_one_as_answers_tells_them(self):
        for asking in askings():
            for turns in (0, 3):
                due, whole = answers(*asking, turns=turns)
                asker = Asker(*asking, turns=turns)
                self.assertEqual((asker.told(), len(asker), asker.limit()), ((), 0, turns))
                for at, answer in enumerate(due):
                    self.assertEqual(asker.tell(), answer)
                    self.assertEqual((asker.told(), len(asker)), (due[:at + 1], at + 1))
                    self.assertIsInstance(asker.told(), tuple)
                for step in range(3):
                    with self.assertRaises(NoMore if whole else Cut) as caught:
                        asker.tell()
                    if not whole:
                        self.assertEqual(caught.exception.turns, turns)
                    self.assertEqual((asker.told(), len(asker), asker.limit()), (due, len(due), turns))

    def test_what_is_left_out(self):
        for asking in ASKINGS:
            asker = Asker(*asking)
            self.assertEqual(asker.limit(), 4)
            self.assertEqual(tuple(all_told(asker)[0]), answers(*asking, turns=4, most=400)[0])
        with self.assertRaises(TooWide) as caught:
            Asker(TREES, (("x", "tree"), ("y", "tree")), same(X, Y), turns=8)
        self.assertEqual(caught.exception.most, 400)

    def test_no_more_and_cut(self):
        self.assertIsInstance(all_told(Asker(NUMBERS, (), call("first", END)))[1], NoMore)
        found, error = all_told(Asker(NUMBERS, (), call("loop", NOUGHT), turns=7))
        self.assertEqual((found, error.turns), ([], 7))
        self.assertIsInstance(error, Cut)

    def test_one_that_was_told_is_passed_over(self):
        found, error = all_told(Asker(NUMBERS, (("x", "num"),), either(X, either(X, call("plus", NOUGHT, X)))))
        self.assertEqual(len(found), 1)
        self.assertIsInstance(error, NoMore)

    def test_what_was_told_stays(self):
        asker = Asker(*PLUS)
        first = asker.tell()
        told = asker.told()
        kept = copy.deepcopy((first, told))
        all_told(asker)
        asker.widen(8)
        all_told(asker)
        self.assertEqual((first, told), kept)
        self.assertEqual(asker.told()[:1], told)

    def test_two_askers_by_themselves(self):
        one, other = Asker(*PLUS), Asker(*PLUS)
        self.assertEqual([one.tell(), one.tell()][0], other.tell())
        self.assertEqual((len(one), len(other)), (2, 1))
        one.widen(6)
        self.assertEqual((one.limit(), other.limit()), (6, 4))


class Widens(unittest.TestCase):
    def test_more_turns(self):
        for asking in askings():
            asker = Asker(*asking, turns=0)
            for turns in (0, 1, 1, 3):
                asker.widen(turns)
                self.assertEqual(asker.limit(), turns)
                error = all_told(asker)[1]
                due, whole = answers(*asking, turns=turns)
                self.assertEqual(asker.told(), due)
                self.assertIsInstance(error, NoMore if whole else Cut)
                if not whole:
                    self.assertEqual(error.turns, turns)

    def test_ahead_of_all_answers(self):
        for many in range(5):
            asker = Asker(*PLUS, turns=4)
            first = [asker.tell() for step in range(many)]
            asker.widen(6)
            rest, error = all_told(asker)
            self.assertEqual(tuple(first + rest), answers(*PLUS, turns=6)[0])
            self.assertEqual(error.turns, 6)

    def test_what_it_has_told_it_does_not_tell_again(self):
        # By more turns the same fills and value come once more, by another way.
        saying = either(X, either(call("plus", NOUGHT, X), call("plus", tower(2), X)))
        asker = Asker(NUMBERS, (("x", "num"),), saying, turns=0)
        found = [all_told(asker)[0]]
        for turns in range(1, 4):
            asker.widen(turns)
            found.append(all_told(asker)[0])
        self.assertEqual([[answer[1] for answer in row] for row in found], [
            [new(1)], [], [made("next", new(1))], [],
        ])
        self.assertIsInstance(all_told(asker)[1], NoMore)

    def test_to_the_same_turns(self):
        asker = Asker(*PLUS)
        asker.tell()
        asker.widen(4)
        self.assertEqual((len(asker), asker.limit()), (1, 4))
        self.assertEqual(asker.tell(), answers(*PLUS)[0][1])
        asker.widen(8)
        asker.widen(8)
        self.assertEqual(asker.limit(), 8)

    def test_what_is_no_number_of_turns(self):
        for turns in (0, 2, 8):
            asker = Asker(*PLUS, turns=turns)
            asker2 = Asker(*PLUS, turns=turns)
            wrong = [*range(-3, turns), 9, 10, 10 ** 30, *[thing for thing in nothings() if type(thing) is not int], (4,)]
            for other in wrong:
                with self.assertRaises(BadTurns):
                    asker.widen(other)
                self.assertEqual(asker.limit(), turns)
            self.assertEqual(all_told(asker)[0], all_told(asker2)[0])

    def test_truths_are_no_numbers(self):
        for turns in (0, 1):
            for truth in (True, False):
                with self.assertRaises(BadTurns):
                    Asker(*PLUS, turns=turns).widen(truth)

    def test_bad_turns_in_the_middle(self):
        asker = Asker(*PLUS)
        first = asker.tell()
        for turns in (3, 9, None, "5", True):
            with self.assertRaises(BadTurns):
                asker.widen(turns)
            self.assertEqual((asker.told(), len(asker), asker.limit()), ((first,), 1, 4))
        self.assertEqual((first, *all_told(asker)[0]), answers(*PLUS)[0])

    def test_too_wide_by_widening(self):
        names = (("x", "tree"), ("y", "tree"))
        asking = (TREES, names, same(X, Y))
        due = answers(*asking, turns=2, most=60)[0]
        for many in (0, 2, len(due)):
            asker = Asker(*asking, turns=2, most=60)
            first = [asker.tell() for step in range(many)]
            for step in range(2):
                with self.assertRaises(TooWide) as caught:
                    asker.widen(3)
                self.assertEqual(caught.exception.most, 60)
                self.assertEqual((asker.limit(), asker.told(), len(asker)), (2, tuple(first), many))
            rest, error = all_told(asker)
            self.assertEqual(tuple(first + rest), due)
            self.assertIsInstance(error, Cut)
            self.assertEqual(error.turns, 2)
            asker.widen(2)
            self.assertEqual(len(asker), len(due))

    def test_too_wide_then_bad_turns_then_on(self):
        asker = Asker(*PLUS, turns=2, most=4)
        with self.assertRaises(TooWide):
            asker.widen(3)
        with self.assertRaises(BadTurns):
            asker.widen(1)
        self.assertEqual(tuple(all_told(asker)[0]), answers(*PLUS, turns=2)[0])


class Refusals(unittest.TestCase):
    def test_in_their_order(self):
        wide, bad = same(X, Y), (("x", "none"),)
        for error, program, names, saying in (
                (BadNames, CLASHING, bad, Z), (BadSaying, CLASHING, XY, Z), (NoTable, CLASHING, XY, wide),
                (TooWide, NUMBERS, XY, wide), (BadNames, NUMBERS, [], wide), (BadSaying, NUMBERS, XY, None)):
            with self.assertRaises(error):
                Asker(program, names, saying, most=1)

    def test_what_they_bear(self):
        with self.assertRaises(BadSaying) as caught:
            Asker(NUMBERS, XY, call("plus", X, Z))
        self.assertEqual(caught.exception.path, (1,))
        with self.assertRaises(NoTable) as caught:
            Asker(CLASHING, XY, X)
        self.assertEqual((caught.exception.function, caught.exception.clash), ("clashes", ("clash", (new(1),), (0, 1))))
        with self.assertRaises(TooWide) as caught:
            Asker(NUMBERS, XY, same(X, Y), most=3)
        self.assertEqual(caught.exception.most, 3)

    def test_whatever_names_and_saying(self):
        for thing in nothings():
            with self.assertRaises(BadNames):
                Asker(NUMBERS, thing, X)
            with self.assertRaises(BadSaying):
                Asker(NUMBERS, XY, thing)

    def test_nothing_is_changed(self):
        for program, names, saying in ASKINGS:
            before = copy.deepcopy((program.kinds, program.functions, names, saying))
            asker = Asker(program, names, saying, turns=1)
            all_told(asker)
            asker.widen(2)
            all_told(asker)
            self.assertEqual((program.kinds, program.functions, names, saying), before)


if __name__ == "__main__":
    unittest.main()

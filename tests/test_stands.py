"""Point 24: when an answer stands, what it covers, and what two answers have in common."""

import copy
import itertools
import unittest

from needfill.answers import answer_stands, answers, common, covers
from needfill.forms import filled, is_new_name, is_thing, names_of
from needfill.judge import comes_to, tree_turns
from needfill.plain import fillings
from tests.books import (
    AS, ASKINGS, END, LEAF, LISTS, NO, NUMBERS, SKIP, TREES, TRUTHS, X, XY, Y, YES, filled_kinds, fork, new,
)
from tests.dice import Thrown
from tests.samples import A, NOUGHT, call, either, made, name, nothings, part_at, places_in, put_at, same, tower

PLUS_TWO = (NUMBERS, XY, same(call("plus", X, Y), tower(3)))


def put(one, rest):
    return made("put", one, rest)


def thrown_askings(seeds):
    for seed in range(seeds):
        thrown = Thrown(seed)
        for step in range(2):
            yield thrown.program, *thrown.asking()


def stands_by_words(program, names, saying, answer):
    """Whether an answer stands, once more by the words of point 24; of a tuple of five."""
    fills, value, tree, turns, log = answer
    if type(fills) is not tuple or len(fills) != len(names):
        return False
    for fill, (word, kind) in zip(fills, names):
        if type(fill) is not tuple or len(fill) != 2 or fill[0] != word or not is_thing(fill[1]):
            return False
    try:
        kinds = filled_kinds(program, names, fills)
    except (AssertionError, KeyError):
        return False
    if [word for word, kind in kinds] != [str(at + 1) for at in range(len(kinds))]:
        return False
    asked = filled(saying, fills)
    if not is_thing(value) or comes_to(program, asked, tree) != value or type(turns) is not int:
        return False
    return 0 <= turns <= tree_turns(program, asked, tree)


class Stands(unittest.TestCase):
    def stands(self, asking, answer, due=True):
        for step in range(2):
            self.assertIs(answer_stands(*asking, answer), due)

    def test_every_answer_that_is_told(self):
        for asking in (*ASKINGS, *thrown_askings(80)):
            for answer in answers(*asking)[0]:
                self.stands(asking, answer)

    def test_answers_of_another_asking(self):
        told = answers(*PLUS_TWO)[0]
        for answer in told:
            self.stands((NUMBERS, XY, call("plus", X, Y)), answer, False)
            self.stands((NUMBERS, XY[:1], same(call("plus", X, X), tower(3))), answer, False)
            self.stands((NUMBERS, (*XY, ("z", "num")), PLUS_TWO[2]), answer, False)
            self.stands((NUMBERS, XY[::-1], PLUS_TWO[2]), answer, False)

    def test_a_fills_name_or_thing(self):
        asking = (NUMBERS, XY, call("plus", X, Y))
        answer = answers(*asking)[0][1]
        fills, *rest = answer
        self.assertEqual(fills, (("x", tower(2)), ("y", new(1))))
        self.stands(asking, answer)
        for other in (
                (("y", tower(2)), ("y", new(1))), (("z", tower(2)), ("y", new(1))), (("x", tower(2)), ("x", new(1))),
                (("x", tower(3)), ("y", new(1))), (("x", tower(2)), ("y", NOUGHT)), (("x", tower(2)), ("y", END)),
                (("x", made("next", new(1))), ("y", new(2))), (("x", tower(2)), ("y", SKIP)), (("x", tower(2)), ("y", A)),
                (("x", tower(2)), ("y", call("some"))), (("x", tower(2)), ("y", made("next"))), (("x", tower(2)), ()),
                (("x", tower(2)), ("y", made("next", YES))), (("x", tower(2)),), (("x", tower(2)), ("y", new(1)), ()),
                (("x", tower(2)), ("y", new(1)), ("z", NOUGHT)), (("x", tower(2)), ("y", new(1), AS)),
                (("x",), ("y", new(1))), (("x", tower(2)), ("y",)), (("x", tower(2)), ("y", new(1000))),
                (("y", new(1)), ("x", tower(2))), (), None, [("x", tower(2)), ("y", new(1))], {"x": tower(2)},
                (["x", tower(2)], ("y", new(1))), (("x", list(tower(2))), ("y", new(1))), (("x", tower(2)), "y1")):
            self.stands(asking, (other, *rest), False)

    def test_fills_exchanged(self):
        told = answers(*PLUS_TWO, turns=8)[0]
        for answer in told:
            (one, first), (other, second) = answer[0]
            turned = ((one, second), (other, first))
            if first != second:
                self.stands(PLUS_TWO, (turned, *answer[1:]), False)

    def test_names_numbered_otherwise(self):
        asking = (NUMBERS, XY, put(X, put(Y, END)))
        tree = ("made", (AS, ("made", (AS, ("made", ())))))

        def numbered(one, other):
            return ((("x", name(one)), ("y", name(other))), put(name(one), put(name(other), END)), tree, 0, ())

        self.stands(asking, numbered("1", "2"))
        self.stands(asking, numbered("1", "1"))
        for pair in (("2", "1"), ("1", "3"), ("2", "2"), ("2", "3"), ("a", "b"), ("x", "y"), ("01", "2"), ("0", "1")):
            self.stands(asking, numbered(*pair), False)

    def test_a_new_name_of_one_kind_throughout(self):
        names = (("x", "num"), ("y", "list"))
        asking = (NUMBERS, names, NOUGHT)
        rest = (NOUGHT, ("made", ()), 0, ())
        self.stands(asking, ((("x", new(1)), ("y", new(2))), *rest))
        self.stands(asking, ((("x", new(1)), ("y", put(new(1), new(2)))), *rest))
        self.stands(asking, ((("x", new(1)), ("y", new(1))), *rest), False)
        self.stands(asking, ((("x", new(1)), ("y", put(new(2), new(1)))), *rest), False)
        self.stands(asking, ((("x", new(1)), ("y", put(new(2), new(2)))), *rest), False)

    def test_the_value(self):
        asking = (NUMBERS, XY, call("plus", X, Y))
        for answer in answers(*asking)[0]:
            for value in (NOUGHT, new(1), new(2), A, tower(9), SKIP, END, None, call("plus", X, Y), list(NOUGHT), ()):
                self.stands(asking, (answer[0], value, *answer[2:]), value == answer[1])
        names = (("x", "num"), ("y", "num"))
        skipped = ((("x", new(1)), ("y", new(2))), SKIP, SKIP, 0, ())
        self.stands((NUMBERS, names, call("plus", X, Y)), skipped, False)
        asking = (NUMBERS, names, put(X, put(Y, END)))
        self.stands(asking, ((("x", new(1)), ("y", new(2))), put(new(1), SKIP), ("made", (AS, SKIP)), 0, ()), False)

    def test_the_tree(self):
        asking = (NUMBERS, XY, put(X, END))
        fills, value, tree, turns, log = answers(*asking)[0][0]
        for other in (AS, ("made", (AS, AS)), ("made", (AS, ("made", ()))), tree):
            self.stands(asking, (fills, value, other, turns, log))
        for other in (SKIP, ("made", (SKIP, AS)), ("made", (AS,)), ["as"], None, (), "as", 0, ("made", [AS, AS])):
            self.stands(asking, (fills, value, other, turns, log), False)

    def test_turns(self):
        asking = (TRUTHS, (("x", "truth"), ("y", "truth")), call("both", same(X, Y), same(X, YES)))
        found = [answer for answer in answers(*asking)[0] if answer[1] == YES]
        fills, value, tree, turns, log = found[0]
        self.assertEqual(turns, 2)
        for other in (0, 1, 2, 3):
            self.stands(asking, (fills, value, tree, other, log))
        for other in (-1, 4, 5, 10 ** 30, True, False, None, "2", (2,), [2], -10 ** 30):
            self.stands(asking, (fills, value, tree, other, log), False)
        plain = (NUMBERS, (), NOUGHT)
        self.stands(plain, ((), NOUGHT, ("made", ()), 0, ()))
        self.stands(plain, ((), NOUGHT, ("made", ()), False, ()), False)
        self.stands(plain, ((), NOUGHT, ("made", ()), 1, ()), False)

    def test_more_than_the_turns_that_were_asked_by(self):
        asking = (NUMBERS, XY, call("plus", X, Y))
        for answer in answers(*asking, turns=8)[0]:
            self.stands(asking, answer)

    def test_whatever_the_log_is(self):
        for asking in ASKINGS[:6]:
            answer = answers(*asking)[0][0]
            for log in (*nothings(), (), (("fill", "x", (), "nought"),), answer):
                self.stands(asking, (*answer[:4], log))

    def test_a_part_more_or_less_and_lists(self):
        for asking in ASKINGS:
            for answer in answers(*asking)[0][:3]:
                self.stands(asking, (*answer, ()), False)
                for other in (answer[:4], answer[1:], (), list(answer), dict(enumerate(answer)), (answer,)):
                    self.stands(asking, other, False)

    def test_whatever_is_handed_in(self):
        things_told = [*nothings(), (), NOUGHT, AS, NUMBERS, (NUMBERS,) * 5, (None,) * 5, ((),) * 5, ([],) * 5]
        deep = ()
        for step in range(38):
            deep = (deep,)
        wide = tuple((str(at), NOUGHT) for at in range(6000))
        things_told += [deep, (deep,) * 5, (wide, NOUGHT, AS, 0, ()), ((("x", fork(*[NOUGHT] * 15000)),),) * 5]
        for asking in ASKINGS:
            for thing in things_told:
                before = copy.deepcopy(thing)
                self.stands(asking, thing, False)
                self.assertEqual(thing, before)

    def test_each_part_changed_by_itself(self):
        others = [
            *nothings(), *range(-1, 4), "1", "2", "x", "y", "nought", "next", "made", "name", "skip", "as", "rule", (),
            NOUGHT, END, YES, new(1), new(2), tower(2), SKIP, AS, ("made", ()), ("made", (AS,)), (AS,), ("x", NOUGHT),
        ]
        stood = 0
        for asking in (*ASKINGS[:2], *ASKINGS[4:10:2], ASKINGS[13], ASKINGS[18], ASKINGS[21]):
            for answer in answers(*asking, turns=2)[0][:4]:
                for path in places_in(answer[:4]):
                    for other in others if path else ():
                        changed = put_at(answer, path, other)
                        due = stands_by_words(*asking, changed)
                        self.stands(asking, changed, due)
                        stood += due
        self.assertGreater(stood, 50)

    def test_lists_for_tuples(self):
        for asking in ASKINGS:
            for answer in answers(*asking, turns=2)[0][:3]:
                for path in places_in(answer[:4]):
                    part = part_at(answer, path)
                    if isinstance(part, tuple):
                        self.stands(asking, put_at(answer, path, list(part)) if path else list(part), False)
                        if path:
                            self.stands(asking, put_at(answer, path, (*part, None)), False)

    def test_large_fills(self):
        names = (("x", "tree"),)
        large = LEAF
        for step in range(7):
            large = fork(large, large, LEAF)
        answer = ((("x", large),), large, AS, 0, ())
        self.stands((TREES, names, X), answer)
        self.stands((TREES, names, X), ((("x", large),), LEAF, AS, 0, ()), False)
        deep = new(1)
        for step in range(36):
            deep = made("next", deep)
        self.stands((NUMBERS, (("x", "num"),), X), ((("x", deep),), deep, AS, 0, ()))


class Covers(unittest.TestCase):
    def test_names_that_stand_once(self):
        answer = ((("x", made("next", new(1))), ("y", new(2))), put(new(1), put(new(2), END)), AS, 0, ())
        fills = (("x", tower(3)), ("y", NOUGHT))
        due = (("1", tower(2)), ("2", NOUGHT))
        self.assertEqual(covers(answer, fills, put(tower(2), put(NOUGHT, END))), due)
        self.assertIsNone(covers(answer, fills, put(tower(3), put(NOUGHT, END))))
        self.assertIsNone(covers(answer, fills, put(tower(2), put(tower(2), END))))
        self.assertIsNone(covers(answer, fills, END))
        self.assertIsNone(covers(answer, (("x", NOUGHT), ("y", NOUGHT)), put(NOUGHT, put(NOUGHT, END))))

    def test_a_name_that_stands_several_times(self):
        answer = ((("x", new(1)), ("y", made("next", new(1)))), new(1), AS, 0, ())
        self.assertEqual(covers(answer, (("x", tower(2)), ("y", tower(3))), tower(2)), (("1", tower(2)),))
        self.assertIsNone(covers(answer, (("x", tower(2)), ("y", tower(2))), tower(2)))
        self.assertIsNone(covers(answer, (("x", tower(2)), ("y", tower(3))), tower(3)))
        self.assertIsNone(covers(answer, (("x", tower(2)), ("y", NOUGHT)), tower(2)))

    def test_without_names(self):
        answer = ((), NOUGHT, ("made", ()), 0, ())
        self.assertEqual(covers(answer, (), NOUGHT), ())
        self.assertIsNone(covers(answer, (), tower(2)))
        answer = ((("x", NOUGHT),), YES, AS, 0, ())
        self.assertEqual(covers(answer, (("x", NOUGHT),), YES), ())
        self.assertIsNone(covers(answer, (("x", NOUGHT),), NO))

    def test_names_that_stand_in_the_fills_alone(self):
        answer = ((("x", new(1)), ("y", put(new(2), new(3)))), YES, AS, 0, ())
        told = covers(answer, (("x", YES), ("y", put(NOUGHT, END))), YES)
        self.assertEqual(told, (("1", YES), ("2", NOUGHT), ("3", END)))

    def test_one_that_does_not_stand(self):
        answer = ((("x", new(1)),), tower(4), SKIP, -7, None)
        self.assertEqual(covers(answer, (("x", NOUGHT),), tower(4)), (("1", NOUGHT),))
        self.assertIsNone(covers(answer, (("x", NOUGHT),), NOUGHT))

    def test_just_what_it_can_be_filled_to(self):
        count = {True: 0, False: 0}
        for program, names, saying in (*ASKINGS, *thrown_askings(40)):
            small = fillings(program, names, size=3 if len(names) < 3 else 2)[:25]
            for answer in answers(program, names, saying, turns=2)[0][:8]:
                kinds = filled_kinds(program, names, answer[0])
                values = {filled(answer[1], row) for row in fillings(program, kinds, size=2 if len(kinds) < 5 else 1)[:6]}
                for fills, value in itertools.product(small, sorted(values)):
                    told = covers(answer, fills, value)
                    if told is not None:
                        self.assertEqual([word for word, thing in told], [word for word, kind in kinds])
                        self.assertEqual(tuple((word, filled(thing, told)) for word, thing in answer[0]), fills)
                        self.assertEqual(filled(answer[1], told), value)
                    else:
                        self.assertFalse(self.can_be(program, kinds, answer, fills, value))
                    count[told is not None] += 1
        self.assertGreater(min(count.values()), 200)

    def can_be(self, program, kinds, answer, fills, value):
        """Whether some filling by small things leads to these fills and that value; of few names alone."""
        if len(kinds) > 3:
            return False
        for row in fillings(program, kinds, size=3):
            if tuple((word, filled(thing, row)) for word, thing in answer[0]) == fills:
                if filled(answer[1], row) == value:
                    return True
        return False


def plain_answer(*fills):
    """An answer with these things for x, y .. ."""
    return (tuple(zip("xyzw", fills)), YES, AS, 0, ())


class Common(unittest.TestCase):
    def alike(self, one, other):
        """What is told is by new names, for all names of each, and makes the fills alike."""
        told = common(one, other)
        self.assertIsNotNone(told)
        self.assertIsInstance(told, tuple)
        self.assertEqual(len(told), 2)
        for answer, fills in zip((one, other), told):
            due = names_of(made("all", *[thing for word, thing in answer[0]]))
            self.assertEqual(tuple(word for word, thing in fills), due)
            for word, thing in fills:
                self.assertTrue(is_thing(thing))
                self.assertTrue(all(is_new_name(inner) for inner in names_of(thing)))
        first, second = [[filled(thing, fills) for word, thing in answer[0]] for answer, fills in zip((one, other), told)]
        self.assertEqual(first, second)
        return told

    def test_no_names(self):
        self.assertEqual(common(plain_answer(), plain_answer()), ((), ()))
        self.assertEqual(common(plain_answer(NOUGHT), plain_answer(NOUGHT)), ((), ()))
        self.assertIsNone(common(plain_answer(NOUGHT), plain_answer(tower(2))))

    def test_alike(self):
        self.alike(plain_answer(new(1)), plain_answer(new(1)))
        self.alike(plain_answer(new(1), new(2)), plain_answer(new(1), new(1)))
        self.alike(plain_answer(new(1)), plain_answer(tower(3)))
        self.alike(plain_answer(put(new(1), new(2))), plain_answer(put(NOUGHT, put(new(1), END))))
        self.alike(plain_answer(new(1), made("next", new(1))), plain_answer(made("next", new(1)), new(2)))
        told = self.alike(plain_answer(new(1), new(1)), plain_answer(new(1), tower(2)))
        self.assertEqual(told, ((("1", tower(2)),), (("1", tower(2)),)))

    def test_names_of_both_are_told_apart(self):
        # Were the two names "1" one name, it would stand within itself.
        self.alike(plain_answer(made("next", new(1))), plain_answer(new(1)))
        self.alike(plain_answer(new(1), new(2)), plain_answer(made("next", new(1)), made("next", new(2))))
        self.alike(plain_answer(new(1), new(2)), plain_answer(new(1), made("next", new(1))))

    def test_unlike_makers(self):
        for one, other in ((NOUGHT, tower(2)), (made("next", NOUGHT), made("next", made("next", new(1))))):
            self.assertIsNone(common(plain_answer(new(1), one), plain_answer(new(1), other)))
            self.assertIsNone(common(plain_answer(other), plain_answer(one)))
        self.assertIsNone(common(plain_answer(new(1), new(1)), plain_answer(NOUGHT, tower(2))))

    def test_a_name_within_itself(self):
        one = plain_answer(new(1), made("next", new(1)))
        self.assertIsNone(common(one, plain_answer(new(1), new(1))))
        self.assertIsNone(common(plain_answer(new(1), new(1)), one))
        one = plain_answer(new(1), made("next", new(2)), new(2))
        self.assertIsNone(common(one, plain_answer(new(1), new(1), new(1))))
        one = plain_answer(new(1), fork(new(1), LEAF, new(2)))
        self.assertIsNone(common(one, plain_answer(fork(new(1), new(2), new(3)), new(2))))
        one, other = plain_answer(new(1), new(2), new(1)), plain_answer(made("next", new(1)), new(1), new(1))
        self.assertIsNone(common(one, other))

    def test_the_values_may_be_unlike(self):
        told = answers(NUMBERS, (("x", "num"),), either(X, NOUGHT))[0]
        self.alike(told[0], told[1])

    def test_an_answer_with_itself(self):
        for asking in (*ASKINGS, *thrown_askings(40)):
            for answer in answers(*asking, turns=3)[0][:10]:
                self.alike(answer, answer)

    def test_of_many_where_some_plain_filling_is_both_or_not(self):
        count = {True: 0, False: 0}
        for program, names, saying in (*ASKINGS, *thrown_askings(120)):
            told = answers(program, names, saying, turns=2)[0][:6]
            small = fillings(program, names, size=3 if len(names) < 3 else 2)[:60]
            for one, other in itertools.product(told, repeat=2):
                found = common(one, other)
                both = [fills for fills in small if self.covered(one, fills) and self.covered(other, fills)]
                if found is None:
                    self.assertEqual(both, [])
                else:
                    self.alike(one, other)
                    self.keeps_kinds(program, names, one, found[0])
                count[found is not None] += 1
        self.assertGreater(min(count.values()), 300)

    def covered(self, answer, fills):
        """Whether an answer's fills can be filled to these, whatever its value."""
        return covers((*answer[:1], YES, *answer[2:]), fills, YES) is not None

    def keeps_kinds(self, program, names, answer, found):
        """What names become is of their kinds."""
        after = tuple((word, filled(thing, found)) for word, thing in answer[0])
        filled_kinds(program, names, after)

    def test_large_ones(self):
        chain = tuple(fork(new(at), new(at), new(at)) for at in range(2, 5))
        one = plain_answer(*[new(at) for at in range(1, 5)])
        other = plain_answer(*chain, LEAF)
        self.alike(one, other)


if __name__ == "__main__":
    unittest.main()

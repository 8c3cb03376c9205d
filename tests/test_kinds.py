"""Points 6 and 7: the names of an asking, its kind, and the first wrong node of its saying."""

import copy
import unittest

from needfill.errors import BadNames, BadSaying, FillError
from needfill.forms import NO, SKIP, YES, filled, nodes_of
from needfill.kinds import kind_of
from needfill.programs import Program
from tests.samples import (
    A, B, C, D, FUNCTIONS, KINDS, NOUGHT, call, either, made, name, nothings, of_nodes, part_at, places_in, put_at,
    same, tower,
)

TRI = ("tri", ("num", "num", "num"), "num", (((A, B, C), A),))
PROGRAM = Program(KINDS, (*FUNCTIONS, TRI))
T = name("t")
END = made("end")
NAMES = (("a", "num"), ("b", "list"), ("c", "num"), ("t", "truth"))
# An asking in which each form of a saying stands within others, with the kinds of its nodes in their order.
NESTED = same(
    either(made("put", A, B), B),
    made("put", call("plus", C, either(NOUGHT, call("some"))), either(END, B)),
)
NESTED_KINDS = "truth list list num list list list num num num num num list list list".split()
SAYINGS = (
    A, T, NOUGHT, END, YES, call("some"), call("plus", A, C), call("alike", B, made("put", A, B)), either(B, END),
    same(B, B), NESTED, either(same(A, C), either(T, call("alike", B, END))), same(same(A, A), same(T, NO)),
)
WRONG_NAMES = (
    None, True, 7, "", "ab", [], {}, [("a", "num")], {"a": "num"}, {("a", "num"): 1}, ("a", "num"),
    (("a", "num"), None),
    (["a", "num"],), ("ab",), ((),), (("a",),), (("a", "num", "num"),), (("a", "num"), ("b", "num", None)),
    (("a", "num"), ("b",)), (("a", "num"), ("a", "num")), (("a", "num"), ("b", "num"), ("a", "list")),
    (("b", "num"), ("a", "num"), ("c", "num"), ("a", "num")),
    (("1", "num"),), (("999", "num"),), (("a", "num"), ("12", "num")),
    (("a", "what"),), (("a", "num"), ("b", "nums")), (("a", "nought"),), (("a", "plus"),), (("a", "truths"),),
    (("a", "b"), ("b", "num")), (("a", ("num",)),), (("a", ["num"]),), (("a", A),), (("a", 0),), (("num", "a"),),
    tuple((word, "num") for word in "abcde"), tuple((word, "num") for word in "abcdefgh"), (("a", "num"),) * 5,
)
WRONG_WORDS = (
    "yes", "no", "nought", "next", "end", "put", "plus", "alike", "some", "tri", "kind", "def", "either", "same",
    "truth", "abcdefghi", "", "A", "a1", "a b",
)


def told(saying, names=NAMES, program=PROGRAM):
    """The kind, the path that BadSaying bears, or None for BadNames."""
    try:
        return kind_of(program, names, saying)
    except BadSaying as error:
        return error.path
    except BadNames:
        return None


def tuple_path(saying, path):
    """The place in the saying's tuples of the node at that path."""
    place = ()
    for at in path:
        head = part_at(saying, place)[0]
        place += (2, at) if head in ("made", "call") else (at + 1,)
    return place


class Kinds(unittest.TestCase):
    def test_of_a_name(self):
        for word, kind in NAMES:
            self.assertEqual(told(name(word)), kind)

    def test_of_a_made(self):
        for saying, kind in (
            (NOUGHT, "num"), (made("next", A), "num"), (END, "list"), (made("put", A, B), "list"), (YES, "truth"),
            (NO, "truth"),
        ):
            self.assertEqual(told(saying), kind)

    def test_of_a_call(self):
        for saying, kind in (
            (call("plus", A, C), "num"), (call("alike", B, B), "truth"), (call("some"), "num"),
            (call("tri", A, A, A), "num"),
        ):
            self.assertEqual(told(saying), kind)

    def test_of_an_either(self):
        for one, other, kind in (
            (A, C, "num"), (B, END, "list"), (T, same(A, A), "truth"), (same(B, B), NO, "truth"),
            (call("some"), A, "num"), (either(B, B), B, "list"), (either(either(T, T), T), YES, "truth"),
        ):
            self.assertEqual(told(either(one, other)), kind)

    def test_of_a_same(self):
        for one, other in ((A, C), (B, END), (T, T), (same(A, A), T), (either(A, C), NOUGHT), (call("some"), A)):
            self.assertEqual(told(same(one, other)), "truth")

    def test_within_one_another_and_each_part_by_itself(self):
        nodes = [node for path, node in nodes_of(NESTED)]
        self.assertEqual([told(node) for node in nodes], NESTED_KINDS)

    def test_by_the_names_that_are_handed_in(self):
        self.assertEqual(told(A, (("a", "list"),)), "list")
        self.assertEqual(told(A, (("b", "num"), ("a", "truth"))), "truth")
        self.assertEqual(told(same(A, B), (("b", "list"), ("a", "list"))), "truth")

    def test_of_the_empty_program(self):
        empty = Program((), ())
        self.assertEqual(told(YES, (), empty), "truth")
        self.assertEqual(told(same(A, NO), (("a", "truth"),), empty), "truth")
        self.assertEqual(told(NOUGHT, (), empty), ())
        self.assertIsNone(told(A, (("a", "num"),), empty))

    def test_filled_by_things_of_its_names_kinds(self):
        things = {
            "a": (NOUGHT, C, made("next", A), tower(3)), "b": (END, made("put", C, B)),
            "c": (made("next", made("next", C)), A), "t": (YES, T),
        }
        for saying in SAYINGS:
            kind = told(saying)
            for at in range(4):
                fills = tuple((word, given[at % len(given)]) for word, given in things.items())
                self.assertEqual(told(filled(saying, fills)), kind)
                self.assertEqual(told(filled(saying, fills[at:at + 1])), kind)


class Names(unittest.TestCase):
    def test_right_ones(self):
        for names in (
            (), (("a", "num"),), NAMES, NAMES[::-1], (("a", "truth"), ("b", "truth")),
            (("num", "num"), ("list", "num")),
            (("zzzzzzzz", "list"),), (("name", "num"), ("made", "num"), ("skip", "num"), ("call", "truth")),
        ):
            self.assertEqual(told(NOUGHT, names), "num", names)

    def test_wrong_ones_ahead_of_whatever_saying(self):
        for names in WRONG_NAMES + tuple(((word, "num"),) for word in WRONG_WORDS):
            for saying in (NOUGHT, A, D, SKIP, None, (), [], "a", tower(9), made("what"), either(A, B)):
                self.assertIsNone(told(saying, names), (names, saying))

    def test_a_wrong_name_at_each_place(self):
        for at in range(4):
            for word in WRONG_WORDS + ("1",):
                self.assertIsNone(told(NOUGHT, put_at(NAMES, (at, 0), word)), (at, word))
            for other in range(4):
                again = told(NOUGHT, put_at(NAMES, (at, 0), NAMES[other][0]))
                self.assertEqual(again, "num" if at == other else None)

    def test_any_part_that_is_nothing(self):
        for path in places_in(NAMES):
            for thing in nothings():
                self.assertIsNone(told(NOUGHT, put_at(NAMES, path, thing)), (path, thing))
            part = part_at(NAMES, path)
            if isinstance(part, tuple):
                for other in (list(part), dict(enumerate(part)), (*part, part[-1])):
                    self.assertIsNone(told(NOUGHT, put_at(NAMES, path, other)), path)

    def test_how_many(self):
        names = tuple((word, "num") for word in "abcdefgh")
        for many in range(9):
            self.assertEqual(told(NOUGHT, names[:many]), "num" if many <= 4 else None, many)

    def test_functions_alone_take_names_too(self):
        program = Program((), (("f", (), "truth", (((), YES),)),))
        self.assertIsNone(told(YES, (("f", "truth"),), program))
        self.assertEqual(told(YES, (("g", "truth"),), program), "truth")


class WrongNodes(unittest.TestCase):
    def wrong(self, path, *sayings):
        for saying in sayings:
            self.assertEqual(told(saying), path, saying)

    def test_a_name_that_is_not_there(self):
        self.wrong((), D, name("nought"), name("plus"), name("num"), name("1"), name("999"))
        self.wrong((0,), made("next", D), either(D, A), same(D, A), call("plus", name("1"), A))
        self.wrong((1,), made("put", A, D), either(A, D), same(A, D), call("plus", A, name("2")))
        self.assertEqual(told(A, ()), ())

    def test_a_name_of_another_kind(self):
        self.wrong((0,), made("next", B), made("put", T, B), call("alike", A, B))
        self.wrong((1,), either(A, B), same(B, A), made("put", A, A), call("plus", A, T))

    def test_no_such_maker(self):
        self.wrong((), made("what"), made("plus", A, A), made("some"), made("a"), made("num"))
        self.wrong((0,), made("next", made("what")), either(made("some"), A))

    def test_a_maker_of_another_kind(self):
        self.wrong((0,), made("next", END), made("put", YES, B))
        self.wrong((1,), either(NOUGHT, END), same(YES, NOUGHT), call("plus", A, NO))

    def test_a_maker_with_another_number_of_parts(self):
        self.wrong((), made("next"), made("next", A, A), made("nought", A), made("put", A), made("yes", A))
        self.wrong((1,), made("put", A, made("put", A, B, B)), same(A, made("next")))

    def test_no_such_function(self):
        self.wrong((), call("what"), call("nought"), call("next", A), call("a"), call("yes"), call("num"))
        self.wrong((0, 0), made("next", made("next", call("what", D))))

    def test_a_function_of_another_kind(self):
        self.wrong((0,), made("next", call("alike", B, B)), call("alike", call("some"), B))
        self.wrong((1,), either(B, call("some")), same(T, call("plus", A, A)))

    def test_a_function_with_another_number_of_parts(self):
        self.wrong((), call("plus"), call("plus", A), call("plus", A, A, A), call("some", A), call("tri", A, A))
        self.wrong((1,), same(T, call("alike", B)))

    def test_a_same_where_truth_is_not_due(self):
        self.wrong((0,), made("next", same(A, A)), call("plus", same(A, A), A))
        self.wrong((1,), either(A, same(A, A)), same(A, same(A, A)), made("put", A, same(D, D)))
        self.assertEqual(told(same(T, same(A, A))), "truth")

    def test_a_sames_sides_have_the_first_sides_kind(self):
        for one in (A, NOUGHT, call("some"), either(A, A), either(either(NOUGHT, C), A)):
            self.assertEqual(told(same(one, C)), "truth")
            self.wrong((1,), same(one, B), same(one, T), same(one, same(A, A)), same(one, END))
        for one in (same(A, A), either(same(B, B), T), call("alike", B, B)):
            self.assertEqual(told(same(one, same(A, A))), "truth")
            self.wrong((1,), same(one, A), same(one, END))

    def test_a_same_whose_first_sides_kind_cannot_be_told(self):
        for wrong in (D, name("nought"), name("1"), made("what"), made("plus", A, A), call("what", T), call("next", A)):
            self.wrong((0,), same(wrong, D), same(wrong, A), same(wrong, wrong), either(wrong, A))
            self.wrong((0, 0), same(either(wrong, A), A), either(either(wrong, D), D), same(same(wrong, A), T))
            self.wrong((0, 0, 0), same(either(either(wrong, D), D), D), either(either(either(wrong, A), A), A))
            self.wrong((1, 0), same(T, same(wrong, A)), either(T, same(wrong, T)))
            self.wrong((1, 0), call("alike", B, made("put", wrong, D)))
            self.wrong((1, 0, 0), either(T, same(either(wrong, wrong), B)))

    def test_a_kind_that_is_told_by_a_wrong_node(self):
        self.wrong((0,), same(made("next"), B), same(call("plus", A), D), either(made("next", A, A), B))
        self.wrong((0, 0), same(made("next", D), B), same(made("next", B), B), same(either(made("put"), A), A))

    def test_an_eithers_sides(self):
        self.wrong((0, 1), either(either(A, B), T), same(either(A, B), B), call("plus", either(A, B), D))
        self.wrong((0, 0), call("plus", either(B, B), B), made("next", either(T, A)))

    def test_the_first_of_several(self):
        self.wrong((), made("next", B, D), call("plus", B), made("what", made("what")), call("plus", D, D, D))
        self.wrong((0,), call("plus", B, D), made("put", B, A), same(made("next", B, B), B))
        self.wrong((0, 0), call("plus", made("next", B), D), same(call("alike", A, A), A))
        self.wrong((0, 1), made("put", call("plus", A, B), D), either(call("alike", B, A), B))
        self.wrong((1,), call("tri", A, made("next"), D), either(A, made("what", D, D)))
        self.wrong((1, 1, 0), same(B, made("put", A, made("put", B, A))))


class NoSayings(unittest.TestCase):
    def test_no_saying_by_form(self):
        for thing in nothings() + [(), ("name",), ("what", A, A), ("skip", A), (A,), A + ("a",), ("made", "next", [A])]:
            self.assertEqual(told(thing), (), thing)
            for whole in (made("next", thing), either(A, thing), same(thing, D), call("plus", D, thing)):
                self.assertEqual(told(whole), (), whole)

    def test_any_part_that_is_nothing(self):
        for path in places_in(NESTED):
            for thing in nothings():
                # "either" and "same" can stand for one another as the heads of sayings.
                if thing not in ("either", "same"):
                    self.assertEqual(told(put_at(NESTED, path, thing)), (), (path, thing))
            part = part_at(NESTED, path)
            if isinstance(part, tuple):
                self.assertEqual(told(put_at(NESTED, path, list(part))), (), path)

    def test_a_skip(self):
        self.assertEqual(told(SKIP), ())
        for path, node in nodes_of(NESTED):
            place = tuple_path(NESTED, path)
            self.assertEqual(told(put_at(NESTED, place, SKIP)), (), path)
        self.assertEqual(told(made("next", made("next", made("next", SKIP)))), ())
        self.assertEqual(told(call("plus", D, SKIP)), ())

    def test_nodes(self):
        for many in (38, 39, 40):
            self.assertEqual(len(nodes_of(of_nodes(many))), many)
            self.assertEqual(told(of_nodes(many)), "num", many)
        for many in (41, 42, 45):
            self.assertEqual(len(nodes_of(of_nodes(many))), many)
            self.assertEqual(told(of_nodes(many)), (), many)

    def test_within_one_another(self):
        for wrap, saying, kind in (
            (lambda one: made("next", one), A, "num"), (lambda one: either(one, A), A, "num"),
            (lambda one: either(A, one), NOUGHT, "num"), (lambda one: same(T, one), T, "truth"),
            (lambda one: same(one, T), T, "truth"), (lambda one: call("tri", A, A, one), call("some"), "num"),
        ):
            for height in range(2, 13):
                saying = wrap(saying)
                self.assertEqual(told(saying), kind if height <= 8 else (), height)

    def test_too_large_comes_ahead_of_a_wrong_node(self):
        wrong = D
        for height in range(2, 13):
            wrong = either(wrong, A)
            self.assertEqual(told(wrong), (0,) * (height - 1) if height <= 8 else ())
        path = (0, 1, 0, 2)
        for many, due in ((40, path), (41, ())):
            saying = of_nodes(many)
            self.assertEqual(told(put_at(saying, tuple_path(saying, path), B)), due)

    def test_far_too_large(self):
        saying = NOUGHT
        for step in range(60):
            saying = either(saying, saying)
        self.assertEqual(told(saying), ())


class Papers(unittest.TestCase):
    def test_nothing_is_changed_and_asked_again_it_is_told_alike(self):
        things = nothings() + [NAMES, NESTED, made("next", [A]), (("a", ["num"]),)]
        whole = (PROGRAM.kinds, PROGRAM.functions)
        for thing in things:
            before = copy.deepcopy(thing)
            self.assertEqual(told(thing), told(before))
            self.assertEqual(told(thing, thing), told(before, before))
            self.assertEqual(told(A, thing), told(A, before))
            self.assertEqual(thing, before)
        self.assertEqual((PROGRAM.kinds, PROGRAM.functions), whole)

    def test_what_is_raised(self):
        for names, saying, error in ((None, A, BadNames), (NAMES, None, BadSaying), (NAMES, D, BadSaying)):
            with self.assertRaises(FillError) as held:
                kind_of(PROGRAM, names, saying)
            self.assertEqual(held.exception.__class__, error)


if __name__ == "__main__":
    unittest.main()

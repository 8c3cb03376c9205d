"""Points 5 and 6: the first wrong place of a program that is of the right form."""

import unittest

from tests.samples import (
    A, ALIKE, B, C, D, FUNCTIONS, KINDS, LIST, NOUGHT, NUM, PLUS, SOME, call, either, made, name, place_of, same, tower,
)

YES, NO = made("yes"), made("no")
FREE = ("free", (("any", ()),))


def rule_place(left, right, dues=("num", "num"), kind="num"):
    """The wrong place of the rule within its function; the program has the sample functions ahead of it."""
    place = place_of(KINDS, (*FUNCTIONS, ("f", dues, kind, ((left, right),))))
    if place is None:
        return None
    side, function, rule, path = place
    assert (function, rule) == (3, 0)
    return side, path


class Kinds(unittest.TestCase):
    def test_right_ones(self):
        self.assertIsNone(place_of((), ()))
        self.assertIsNone(place_of(KINDS, FUNCTIONS))

    def test_an_earlier_kinds_name(self):
        other = ("num", (("other", ()),))
        self.assertEqual(place_of((NUM, other), ()), ("kind", 1))
        self.assertEqual(place_of((NUM, LIST, other), ()), ("kind", 2))
        self.assertEqual(place_of((FREE, NUM, other, NUM), ()), ("kind", 2))

    def test_a_kind_may_have_a_makers_or_functions_name(self):
        self.assertIsNone(place_of((("num", (("num", ()),)),), ()))
        self.assertIsNone(place_of((("yes", (("t", ()),)),), (("yess", (), "yes", (((), made("t")),)),)))
        self.assertIsNone(place_of(KINDS, (("num", (), "num", (((), NOUGHT),)),)))


class Makers(unittest.TestCase):
    def test_yes_and_no(self):
        for word in ("yes", "no"):
            self.assertEqual(place_of((FREE, ("k", (("m", ()), (word, ())))), ()), ("maker", 1, 1))
            self.assertEqual(place_of((("k", ((word, ()), ("m", ()))),), ()), ("maker", 0, 0))

    def test_an_earlier_makers_name(self):
        self.assertEqual(place_of((("k", (("m", ()), ("n", ()), ("m", ("k",)))),), ()), ("maker", 0, 2))
        self.assertEqual(place_of((NUM, FREE, ("k", (("m", ()), ("next", ())))), ()), ("maker", 2, 1))

    def test_a_kind_that_is_not_there(self):
        self.assertEqual(place_of((("k", (("m", ()), ("n", ("k", "what")))),), ()), ("maker", 0, 1))
        self.assertEqual(place_of((("k", (("m", ("m",)), ("n", ()))),), ()), ("maker", 0, 0))
        self.assertEqual(place_of((FREE, ("k", (("m", ("free", "truth", "frees")),))), ()), ("maker", 1, 0))

    def test_a_later_kind_is_there(self):
        self.assertIsNone(place_of((LIST, NUM), ()))

    def test_the_first_of_several(self):
        kinds = (("k", (("m", ()), ("no", ()))), ("l", (("m", ()), ("n", ("what",)))))
        self.assertEqual(place_of(kinds, ()), ("maker", 0, 1))
        self.assertEqual(place_of((FREE, kinds[1], kinds[0]), ()), ("maker", 1, 1))
        self.assertEqual(place_of((("k", (("n", ("what",)), ("yes", ()))),), ()), ("maker", 0, 0))


class Empty(unittest.TestCase):
    def test_of_itself(self):
        self.assertEqual(place_of((("k", (("m", ("k",)),)),), ()), ("empty", 0))
        self.assertEqual(place_of((("k", (("m", ("truth", "k")), ("n", ("k", "k", "k")))),), ()), ("empty", 0))
        self.assertIsNone(place_of((("k", (("m", ("k",)), ("n", ("truth",)))),), ()))

    def test_of_one_another(self):
        kinds = (FREE, ("p", (("pp", ("q",)),)), ("q", (("qq", ("free", "p")),)))
        self.assertEqual(place_of(kinds, ()), ("empty", 1))
        self.assertIsNone(place_of(kinds[:2] + (("q", (("qq", ("p",)), ("qr", ()))),), ()))

    def test_the_first_empty_one_not_the_first_found(self):
        kinds = (("p", (("pp", ("q",)),)), ("q", (("qq", ("q",)),)))
        self.assertEqual(place_of(kinds, ()), ("empty", 0))
        kinds = (("p", (("pp", ("q",)), ("ps", ()))), ("q", (("qq", ("q", "p")),)))
        self.assertEqual(place_of(kinds, ()), ("empty", 1))

    def test_a_long_way_round(self):
        last = ("s", (("ss", ()),))
        kinds = (("p", (("pp", ("q",)),)), ("q", (("qq", ("r",)),)), ("r", (("rr", ("s",)),)), last)
        self.assertIsNone(place_of(kinds, ()))
        self.assertIsNone(place_of(kinds[::-1], ()))
        self.assertEqual(place_of(kinds[:3] + (("s", (("ss", ("p",)),)),), ()), ("empty", 0))

    def test_all_parts_must_be_there(self):
        kinds = (FREE, ("k", (("m", ("free", "k")), ("n", ("k", "free")))))
        self.assertEqual(place_of(kinds, ()), ("empty", 1))


class Functions(unittest.TestCase):
    def test_a_makers_name(self):
        for word in ("yes", "no", "nought", "put"):
            wrong = (word, (), "num", (((), NOUGHT),))
            self.assertEqual(place_of(KINDS, (wrong,)), ("def", 0))
            self.assertEqual(place_of(KINDS, (PLUS, SOME, wrong)), ("def", 2))

    def test_an_earlier_functions_name(self):
        self.assertEqual(place_of(KINDS, (PLUS, ALIKE, PLUS)), ("def", 2))
        self.assertEqual(place_of(KINDS, (PLUS, PLUS, PLUS)), ("def", 1))

    def test_a_kind_that_is_not_there(self):
        self.assertEqual(place_of(KINDS, (PLUS, ("f", ("num", "what"), "num", (((A, B), A),)))), ("def", 1))
        self.assertEqual(place_of(KINDS, (("f", (), "what", (((), NOUGHT),)),)), ("def", 0))
        self.assertEqual(place_of(KINDS, (("f", (), "nought", (((), NOUGHT),)),)), ("def", 0))

    def test_all_functions_ahead_of_all_rules(self):
        wrong = ("f", ("num",), "num", (((), NOUGHT),))
        self.assertEqual(place_of(KINDS, (wrong,)), ("left", 0, 0, ()))
        self.assertEqual(place_of(KINDS, (wrong, PLUS, PLUS)), ("def", 2))


class Left(unittest.TestCase):
    def test_not_as_many_patterns_as_arguments(self):
        for left in ((), (A,), (A, B, C), (A, A, A, A)):
            self.assertEqual(rule_place(left, NOUGHT), ("left", ()))
        self.assertEqual(rule_place((A,), NOUGHT, dues=()), ("left", ()))

    def test_right_ones(self):
        self.assertIsNone(rule_place((), NOUGHT, dues=()))
        self.assertIsNone(rule_place((tower(4), made("next", made("next", A))), A))
        self.assertIsNone(rule_place((made("put", A, made("put", B, C)), YES), A, dues=("list", "truth")))

    def test_a_name_that_stood_before(self):
        self.assertEqual(rule_place((A, A), NOUGHT), ("left", (1,)))
        self.assertEqual(rule_place((made("next", A), made("next", made("next", A))), NOUGHT), ("left", (1, 0, 0)))
        twice = made("put", A, made("put", A, B))
        self.assertEqual(rule_place((C, twice), NOUGHT, dues=("num", "list")), ("left", (1, 1, 0)))

    def test_names_start_anew_with_each_rule(self):
        rules = (((A,), A), ((A,), A), ((B,), A))
        self.assertEqual(place_of(KINDS, (("f", ("num",), "num", rules),)), ("right", 0, 2, ()))

    def test_a_makers_or_functions_name(self):
        for word in ("yes", "no", "nought", "end", "put", "plus", "alike", "f"):
            self.assertEqual(rule_place((A, name(word)), NOUGHT), ("left", (1,)), word)
            self.assertEqual(rule_place((made("next", name(word)), A), NOUGHT), ("left", (0, 0)), word)
        early = ("e", ("num",), "num", (((name("plus"),), NOUGHT),))
        self.assertEqual(place_of(KINDS, (early, PLUS)), ("left", 0, 0, (0,)))
        for word in ("num", "list", "name", "made"):
            self.assertIsNone(rule_place((A, name(word)), NOUGHT), word)

    def test_made(self):
        for wrong in (
            made("what"), made("end"), YES, made("put", A, B), made("nought", A), made("next"), made("next", A, B),
            made("plus", A, B), made("some"), made("num"),
        ):
            self.assertEqual(rule_place((wrong, C), NOUGHT), ("left", (0,)), wrong)
            self.assertEqual(rule_place((C, made("next", wrong)), NOUGHT), ("left", (1, 0)), wrong)

    def test_the_kinds_of_parts(self):
        self.assertEqual(rule_place((made("put", A, NOUGHT),), NOUGHT, dues=("list",)), ("left", (0, 1)))
        self.assertEqual(rule_place((made("put", made("end"), A),), NOUGHT, dues=("list",)), ("left", (0, 0)))
        self.assertEqual(rule_place((NOUGHT, NOUGHT), NOUGHT, dues=("num", "list")), ("left", (1,)))

    def test_nothing_else_stands_there(self):
        for wrong in (call("some"), call("plus", A, B), either(A, A), either(NOUGHT, NOUGHT), same(A, A)):
            self.assertEqual(rule_place((wrong, C), NOUGHT), ("left", (0,)), wrong)
            self.assertEqual(rule_place((C, made("next", wrong)), NOUGHT), ("left", (1, 0)), wrong)
        self.assertEqual(rule_place((same(YES, NO),), NOUGHT, dues=("truth",)), ("left", (0,)))

    def test_the_first_of_several(self):
        self.assertEqual(rule_place((made("next", A, YES), made("what")), D), ("left", (0,)))
        self.assertEqual(rule_place((made("next", made("next", YES)), A), D), ("left", (0, 0, 0)))
        self.assertEqual(rule_place((A, A, A), D), ("left", ()))


class Right(unittest.TestCase):
    def right(self, right, kind="num"):
        """The wrong path in a right side, where a and b are a number and a list."""
        place = rule_place((A, made("put", C, B)), right, dues=("num", "list"), kind=kind)
        if place is None:
            return None
        self.assertEqual(place[0], "right")
        return place[1]

    def test_right_ones(self):
        for right in (A, C, NOUGHT, tower(8), call("plus", A, C), call("some"), either(A, call("plus", C, NOUGHT))):
            self.assertIsNone(self.right(right), right)
        for right in (YES, same(A, C), same(B, made("put", A, B)), call("alike", B, B), either(YES, same(YES, NO)),
                      same(same(A, C), call("alike", B, B)), same(either(either(A, C), NOUGHT), call("some"))):
            self.assertIsNone(self.right(right, kind="truth"), right)

    def test_names(self):
        self.assertEqual(self.right(D), ())
        self.assertEqual(self.right(B), ())
        self.assertEqual(self.right(name("nought")), ())
        self.assertEqual(self.right(name("some")), ())
        self.assertEqual(self.right(made("next", D)), (0,))
        self.assertEqual(self.right(call("plus", A, B)), (1,))
        self.assertIsNone(self.right(B, kind="list"))

    def test_made(self):
        for wrong in (
            made("what"), made("end"), YES, made("nought", A), made("next"), made("next", A, A), made("plus", A, A),
            made("some"), made("a"),
        ):
            self.assertEqual(self.right(wrong), (), wrong)
            self.assertEqual(self.right(made("next", wrong)), (0,), wrong)
        self.assertEqual(self.right(made("put", B, A), kind="list"), (0,))
        self.assertEqual(self.right(made("put", A, A), kind="list"), (1,))

    def test_call(self):
        for wrong in (
            call("what"), call("alike", B, B), call("plus", A), call("plus"), call("plus", A, A, A), call("some", A),
            call("nought"), call("next", A), call("a"),
        ):
            self.assertEqual(self.right(wrong), (), wrong)
            self.assertEqual(self.right(call("plus", A, wrong)), (1,), wrong)
        self.assertEqual(self.right(call("alike", B, A), kind="truth"), (1,))

    def test_a_later_function_and_itself_are_there(self):
        early = ("e", ("num",), "num", (((A,), call("plus", call("e", A), A)),))
        self.assertIsNone(place_of(KINDS, (early, PLUS)))

    def test_same_where_truth_is_not_due(self):
        self.assertEqual(self.right(same(A, A)), ())
        self.assertEqual(self.right(made("next", same(D, D))), (0,))
        self.assertEqual(self.right(same(same(YES, NO), same(A, B)), kind="truth"), (1, 1))
        self.assertEqual(self.right(same(A, same(A, A)), kind="truth"), (1,))

    def test_same_has_its_first_sides_kind(self):
        for one, other in ((A, B), (NOUGHT, B), (call("some"), made("end")), (B, NOUGHT), (YES, A), (made("end"), YES)):
            self.assertEqual(self.right(same(one, other), kind="truth"), (1,))
        self.assertEqual(self.right(same(same(A, A), A), kind="truth"), (1,))
        self.assertEqual(self.right(same(call("alike", B, B), NOUGHT), kind="truth"), (1,))
        self.assertEqual(self.right(same(either(A, A), B), kind="truth"), (1,))
        self.assertEqual(self.right(same(either(same(A, A), YES), B), kind="truth"), (1,))
        self.assertEqual(self.right(same(either(either(B, B), A), B), kind="truth"), (0, 1))
        self.assertEqual(self.right(same(either(A, B), A), kind="truth"), (0, 1))

    def test_same_where_the_kind_cannot_be_told(self):
        for wrong in (D, name("nought"), made("what"), made("plus", A, A), call("what", YES), call("next", A)):
            self.assertEqual(self.right(same(wrong, D), kind="truth"), (0,), wrong)
            self.assertEqual(self.right(same(either(wrong, D), A), kind="truth"), (0, 0), wrong)
            self.assertEqual(self.right(same(either(either(wrong, D), D), A), kind="truth"), (0, 0, 0), wrong)
            self.assertEqual(self.right(either(YES, same(wrong, wrong)), kind="truth"), (1, 0), wrong)
            self.assertEqual(self.right(same(same(wrong, A), YES), kind="truth"), (0, 0), wrong)

    def test_a_told_kind_with_a_wrong_node(self):
        self.assertEqual(self.right(same(made("next"), A), kind="truth"), (0,))
        self.assertEqual(self.right(same(call("plus", B, D), B), kind="truth"), (0, 0))
        self.assertEqual(self.right(same(made("next", D), B), kind="truth"), (0, 0))

    def test_either_is_never_wrong_but_its_sides(self):
        self.assertEqual(self.right(either(A, B)), (1,))
        self.assertEqual(self.right(either(B, D)), (0,))
        self.assertEqual(self.right(either(either(A, YES), D)), (0, 1))
        self.assertIsNone(self.right(either(either(YES, NO), same(A, A)), kind="truth"))

    def test_the_first_of_several(self):
        self.assertEqual(self.right(call("plus", made("next", B), D)), (0, 0))
        self.assertEqual(self.right(call("plus", made("next", B, B), D)), (0,))

    def test_a_name_that_stands_too_often(self):
        self.assertIsNone(self.right(call("plus", A, A)))
        self.assertIsNone(self.right(call("plus", call("plus", A, C), call("plus", C, A))))
        self.assertEqual(self.right(call("plus", A, call("plus", A, A))), ())
        self.assertEqual(self.right(call("plus", call("plus", C, C), call("plus", A, C))), ())
        self.assertEqual(self.right(either(A, either(A, A))), ())
        self.assertEqual(self.right(either(either(A, A), either(A, A))), ())

    def test_too_often_comes_last_in_its_rule(self):
        self.assertEqual(self.right(either(A, either(A, either(A, B)))), (1, 1, 1))
        often = ((A,), either(A, either(A, A)))
        wrong = ((A,), made("next", B))
        self.assertEqual(place_of(KINDS, (("f", ("num",), "num", (often, wrong)),)), ("right", 0, 0, ()))
        self.assertEqual(place_of(KINDS, (("f", ("num",), "num", (wrong, often)),)), ("right", 0, 0, (0,)))


class Order(unittest.TestCase):
    def test_each_place_ahead_of_the_later_ones(self):
        """All wrong at once; then one place after another is put right."""
        twice = (("k", (("m", ()),)), ("k", (("n", ()),)))
        maker = (("k", (("m", ("l",)),)), ("l", (("m", ()),)))
        empty = (("k", (("m", ("l",)),)), ("l", (("n", ("k",)),)))
        right = (("k", (("m", ("l",)),)), ("l", (("n", ()),)))
        first = ("f", ("k",), "l", (((), D), ((A,), D), ((A,), made("n")), ((A,), A)))
        again = ("f", (), "k", (((), D),))
        self.assertEqual(place_of(twice + (None,), (first, again)), ())
        self.assertEqual(place_of(twice + maker, (first, again)), ("kind", 1))
        self.assertEqual(place_of(maker, (first, again)), ("maker", 1, 0))
        self.assertEqual(place_of(empty, (first, again)), ("empty", 0))
        self.assertEqual(place_of(right, (first, again)), ("def", 1))
        self.assertEqual(place_of(right, (first,)), ("left", 0, 0, ()))

    def test_function_by_function_rule_by_rule(self):
        good = ((A,), made("n"))
        rules = (good, ((A,), A), ((made("n"),), D), ((), D))
        kinds = (("k", (("m", ("l",)),)), ("l", (("n", ()),)))
        self.assertEqual(place_of(kinds, (("f", ("k",), "l", rules),)), ("right", 0, 1, ()))
        self.assertEqual(place_of(kinds, (("f", ("k",), "l", (good, *rules[2:])),)), ("left", 0, 1, (0,)))
        self.assertEqual(place_of(kinds, (("f", ("k",), "l", (good, good, rules[3])),)), ("left", 0, 2, ()))
        self.assertEqual(
            place_of(kinds, (("f", ("k",), "l", (good,)), ("g", ("k",), "k", (((A,), A), rules[3])))),
            ("left", 1, 1, ()))
        self.assertEqual(
            place_of(kinds, (("f", ("k",), "l", (good, ((A,), A))), ("g", ("k",), "k", (rules[3],)))),
            ("right", 0, 1, ()))

    def test_the_eighth_rule_of_the_sixth_function(self):
        good = ("num",), "num", (((A,), A),) * 8
        functions = tuple((word, *good) for word in "fghij")
        last = ("k", ("num",), "num", (((A,), A),) * 7 + (((A,), made("next", made("next", B))),))
        self.assertIsNone(place_of(KINDS, functions + (("k", *good),)))
        self.assertEqual(place_of(KINDS, functions + (last,)), ("right", 5, 7, (0, 0)))


if __name__ == "__main__":
    unittest.main()

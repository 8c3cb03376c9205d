"""Points 8 and 10: a function's table, which one is told, and what stands as one."""

import copy
import unittest

from needfill.errors import FillError, NoTable
from needfill.programs import Program
from needfill.tables import clash_stands, table_of, table_stands
from tests.rulebooks import END, LEAF, NO, YES, all_tables, book, looks, mixed_books, pair_books, told
from tests.samples import (
    A, B, C, D, FUNCTIONS, KINDS, NOUGHT, made, name, nothings, part_at, places_in, put_at, tower,
)

NEXT_A, NEXT_B = made("next", A), made("next", B)
# Three rules of two arguments, with several tables.
BOTH = book(("num", "num"), (NOUGHT, NOUGHT), (NOUGHT, NEXT_B), (NEXT_A, NOUGHT), (NEXT_A, NEXT_B))


def rule(number):
    return ("rule", number)


def look(path, *branches):
    return ("look", path, branches)


def full(height):
    """The widest pattern of a tree that is so high."""
    return LEAF if height == 1 else made("fork", *[full(height - 1)] * 3)


def is_told(program, thing):
    """What table_stands tells of f, once looked at twice."""
    stands = table_stands(program, "f", thing)
    assert stands is table_stands(program, "f", thing)
    return stands


class Told(unittest.TestCase):
    def test_no_arguments(self):
        self.assertEqual(told(book((), ())), rule(0))

    def test_names_alone(self):
        self.assertEqual(told(book(("num",), (A,))), rule(0))
        self.assertEqual(told(book(("num", "list", "truth"), (A, B, C))), rule(0))

    def test_one_argument(self):
        self.assertEqual(
            told(book(("num",), (NOUGHT,), (NEXT_A,))), look((0,), ("nought", rule(0)), ("next", rule(1))))

    def test_one_rule_looks_too(self):
        self.assertEqual(told(book(("num",), (NOUGHT,))), look((0,), ("nought", rule(0))))
        self.assertEqual(told(book(("num",), (NEXT_A,))), look((0,), ("next", rule(0))))
        self.assertEqual(
            told(book(("num", "num"), (made("next", NOUGHT), NOUGHT))),
            look((0,), ("next", look((0, 0), ("nought", look((1,), ("nought", rule(0))))))))

    def test_the_kinds_order_whatever_the_rules_order(self):
        self.assertEqual(
            told(book(("num",), (NEXT_A,), (NOUGHT,))), look((0,), ("nought", rule(1)), ("next", rule(0))))
        self.assertEqual(told(book(("truth",), (NO,), (YES,))), look((0,), ("yes", rule(1)), ("no", rule(0))))
        self.assertEqual(
            told(book(("list",), (made("put", NEXT_A, B),), (END,), (made("put", NOUGHT, C),))),
            look((0,), ("end", rule(1)), ("put", look((0, 0), ("nought", rule(2)), ("next", rule(0))))))

    def test_makers_that_no_rule_has(self):
        self.assertEqual(told(book(("list",), (END,))), look((0,), ("end", rule(0))))
        self.assertEqual(
            told(book(("num", "truth"), (NOUGHT, NO), (NEXT_A, YES))),
            look((0,), ("nought", look((1,), ("no", rule(0)))), ("next", look((1,), ("yes", rule(1))))))

    def test_two_arguments_of_which_one_is_looked_at(self):
        program = Program(KINDS, FUNCTIONS)
        self.assertEqual(table_of(program, "plus"), look((0,), ("nought", rule(0)), ("next", rule(1))))
        self.assertEqual(table_of(program, "alike"), rule(0))
        self.assertEqual(table_of(program, "some"), rule(0))
        self.assertEqual(
            told(book(("num", "num"), (A, NOUGHT), (A, NEXT_B))), look((1,), ("nought", rule(0)), ("next", rule(1))))

    def test_three_arguments(self):
        lefts = (A, YES, END), (NOUGHT, NO, B), (NEXT_A, NO, B), (A, YES, made("put", B, C))
        program = book(("num", "truth", "list"), *lefts)
        self.assertEqual(told(program), look(
            (1,),
            ("yes", look((2,), ("end", rule(0)), ("put", rule(3)))),
            ("no", look((0,), ("nought", rule(1)), ("next", rule(2))))))

    def test_the_least_path(self):
        self.assertEqual(told(BOTH), look(
            (0,),
            ("nought", look((1,), ("nought", rule(0)), ("next", rule(1)))),
            ("next", look((1,), ("nought", rule(2)), ("next", rule(3))))))

    def test_a_longer_path_can_be_the_least(self):
        program = book(("num", "num"), (made("next", NOUGHT), NOUGHT), (made("next", NEXT_A), NOUGHT))
        self.assertEqual(told(program), look((0,), ("next", look(
            (0, 0), ("nought", look((1,), ("nought", rule(0)))), ("next", look((1,), ("nought", rule(1))))))))
        program = book(("list",), (made("put", NOUGHT, made("put", A, B)),), (made("put", NEXT_A, made("put", B, C)),))
        self.assertEqual(told(program), look((0,), ("put", look(
            (0, 0), ("nought", look((0, 1), ("put", rule(0)))), ("next", look((0, 1), ("put", rule(1))))))))

    def test_a_later_place_opens_an_earlier_one(self):
        program = book(("list", "truth"), (A, YES), (END, NO), (made("put", A, B), NO))
        self.assertEqual(
            told(program), look((1,), ("yes", rule(0)), ("no", look((0,), ("end", rule(1)), ("put", rule(2))))))
        program = book(("tree",), (made("fork", A, B, LEAF),), (made("fork", LEAF, B, made("fork", A, C, D)),))
        self.assertEqual(told(program), look((0,), ("fork", look(
            (0, 2), ("leaf", rule(0)), ("fork", look((0, 0), ("leaf", rule(1))))))))

    def test_patterns_four_within_one_another(self):
        deep = made("next", made("next", made("next", A)))
        table = rule(0)
        for path in ((0, 0, 0), (0, 0), (0,)):
            table = look(path, ("next", table))
        self.assertEqual(told(book(("num",), (deep,))), table)
        last = look((0, 0, 0, 0), ("nought", rule(0)))
        for path in ((0, 0, 0), (0, 0), (0,)):
            last = look(path, ("next", last))
        self.assertEqual(told(book(("num",), (tower(4),))), last)

    def test_eight_rules(self):
        heights = (3, 1, 4, 2)
        lefts = [(tower(height), truth) for truth in (NO, YES) for height in heights]
        table = told(book(("num", "truth"), *lefts))
        for at in range(3):
            path = (0,) * (at + 1)
            self.assertEqual(table[:2], ("look", path))
            self.assertEqual([maker for maker, branch in table[2]], ["nought", "next"])
            numbers = [heights.index(at + 1) + 4, heights.index(at + 1)]
            self.assertEqual(table[2][0][1], look((1,), ("yes", rule(numbers[0])), ("no", rule(numbers[1]))))
            table = table[2][1][1]
        self.assertEqual(table, look((0, 0, 0, 0), ("nought", look((1,), ("yes", rule(6)), ("no", rule(2))))))

    def test_the_largest_left_side(self):
        program = book(("tree",) * 3, (full(4),) * 3)
        table = told(program)
        paths = looks(table)
        self.assertEqual(len(paths), 120)
        self.assertEqual(paths, sorted(paths))
        self.assertIs(is_told(program, table), True)
        self.assertIs(is_told(book(("tree",) * 3, (full(4), full(4), A)), table), False)

    def test_by_its_name_whatever_stands_beside(self):
        clash = ("g", ("num",), "num", (((A,), A), ((A,), A)))
        program = Program(KINDS, (clash, *FUNCTIONS))
        self.assertEqual(table_of(program, "plus"), look((0,), ("nought", rule(0)), ("next", rule(1))))
        with self.assertRaises(NoTable):
            table_of(program, "g")

    def test_every_table_of_many_functions(self):
        for program in [*pair_books(23), *mixed_books()]:
            tables = all_tables(program)
            table = told(program)
            if tables:
                self.assertEqual(table, min(tables, key=looks), program.functions)
                for other in tables:
                    self.assertIs(is_told(program, other), True)
            else:
                self.assertEqual(table[0], "f", program.functions)
                self.assertIs(clash_stands(program, "f", table[1]), True)
                self.assertIs(is_told(program, table[1]), False)


class Refused(unittest.TestCase):
    def clash(self, program, pattern, *rules):
        self.assertEqual(told(program), ("f", ("clash", pattern, rules)))

    def test_what_is_raised(self):
        program = Program(KINDS, (("twice", ("num",), "num", (((A,), A), ((A,), A))), *FUNCTIONS))
        with self.assertRaises(FillError) as held:
            table_of(program, "twice")
        self.assertEqual(held.exception.__class__, NoTable)
        self.assertEqual(held.exception.function, "twice")
        self.assertEqual(held.exception.clash, ("clash", (name("1"),), (0, 1)))

    def test_no_arguments(self):
        self.clash(book((), (), ()), (), 0, 1)
        self.clash(book((), (), (), (), ()), (), 0, 1, 2, 3)

    def test_at_once(self):
        self.clash(book(("num",), (A,), (NOUGHT,)), (name("1"),), 0, 1)
        self.clash(book(("num",), (NOUGHT,), (NEXT_A,), (A,)), (name("1"),), 0, 1, 2)
        self.clash(book(("num", "num"), (NOUGHT, A), (A, NOUGHT)), (name("1"), name("2")), 0, 1)
        lefts = (NOUGHT, YES, C), (A, NO, NOUGHT), (NEXT_A, B, made("next", C))
        self.clash(book(("num", "truth", "num"), *lefts), (name("1"), name("2"), name("3")), 0, 1, 2)

    def test_like_rules(self):
        self.clash(book(("num",), (NOUGHT,), (NOUGHT,)), (NOUGHT,), 0, 1)
        self.clash(book(("num",), (NEXT_A,), (NOUGHT,), (NEXT_B,)), (made("next", name("1")),), 0, 2)
        self.clash(book(("num", "num"), (A, tower(2)), (B, tower(2))), (name("1"), tower(2)), 0, 1)

    def test_below_a_look(self):
        program = book(("list", "num"), (END, A), (made("put", NOUGHT, A), B), (made("put", A, END), B))
        self.clash(program, (made("put", name("1"), name("2")), name("3")), 1, 2)

    def test_in_a_branch_that_is_not_the_first(self):
        program = book(("num", "num"), (NOUGHT, NOUGHT), (NOUGHT, NEXT_B), (NEXT_A, B), (NEXT_A, NOUGHT))
        self.clash(program, (made("next", name("1")), name("2")), 2, 3)
        program = book(("num", "num"), (NEXT_A, B), (NEXT_A, NOUGHT), (NOUGHT, NEXT_B), (NOUGHT, NOUGHT))
        self.clash(program, (made("next", name("1")), name("2")), 0, 1)

    def test_the_first_branch_whatever_the_rules_order(self):
        program = book(("num", "num"), (NEXT_A, B), (NEXT_A, NOUGHT), (NOUGHT, NOUGHT), (NOUGHT, B))
        self.clash(program, (NOUGHT, name("1")), 2, 3)

    def test_a_deep_one_ahead_of_one_in_a_later_branch(self):
        program = book(
            ("list", "num"), (made("put", A, B), C), (made("put", A, B), NOUGHT), (END, tower(3)), (END, tower(3)))
        self.clash(program, (END, tower(3)), 2, 3)

    def test_new_names_in_their_order_over_the_whole_tuple(self):
        fork = made("fork", A, made("fork", B, C, LEAF), D)
        other = made("fork", LEAF, made("fork", A, B, LEAF), D)
        third = made("fork", A, made("fork", B, C, LEAF), LEAF)
        lefts = (name("x"), fork, NOUGHT), (NOUGHT, other, NOUGHT), (name("x"), third, NOUGHT)
        program = book(("num", "tree", "num"), *lefts)
        pattern = made("fork", name("2"), made("fork", name("3"), name("4"), LEAF), name("5"))
        self.clash(program, (name("1"), pattern, NOUGHT), 0, 1, 2)

    def test_what_was_looked_at_on_the_way(self):
        program = book(
            ("num", "num"), (tower(2), A), (made("next", NEXT_A), B), (made("next", NEXT_A), NOUGHT), (NOUGHT, B))
        self.clash(program, (made("next", made("next", name("1"))), name("2")), 1, 2)

    def test_a_rule_left_alone_does_not_clash(self):
        program = book(("num", "num"), (NOUGHT, A), (NEXT_A, B), (NEXT_A, NOUGHT), (NEXT_A, NEXT_B))
        self.clash(program, (made("next", name("1")), name("2")), 1, 2, 3)

    def test_the_largest_one(self):
        left = (full(4), full(4), made("fork", full(3), full(3), A))
        program = book(("tree",) * 3, left, left)
        self.clash(program, (full(4), full(4), made("fork", full(3), full(3), name("1"))), 0, 1)

    def test_all_rules_that_are_left_there(self):
        program = book(("num", "truth"), *[(NOUGHT, truth) for truth in (YES, NO, A, YES, NO, B, YES)], (NEXT_A, B))
        self.clash(program, (NOUGHT, name("1")), 0, 1, 2, 3, 4, 5, 6)


class Stands(unittest.TestCase):
    def test_other_looks_than_the_least(self):
        last = look(
            (1,),
            ("nought", look((0,), ("nought", rule(0)), ("next", rule(2)))),
            ("next", look((0,), ("nought", rule(1)), ("next", rule(3)))))
        self.assertIs(is_told(BOTH, last), True)
        self.assertNotEqual(told(BOTH), last)
        program = book(("list",), (made("put", NOUGHT, END),))
        for one, other, makers in (((0, 0), (0, 1), ("nought", "end")), ((0, 1), (0, 0), ("end", "nought"))):
            inner = look(one, (makers[0], look(other, (makers[1], rule(0)))))
            self.assertIs(is_told(program, look((0,), ("put", inner))), True)

    def test_looks_that_cannot_be_taken(self):
        program = Program(KINDS, FUNCTIONS)
        for table in (
            look((1,), ("nought", rule(0)), ("next", rule(1))), look((2,), ("nought", rule(0)), ("next", rule(1))),
            look((), ("nought", rule(0)), ("next", rule(1))), look((0, 0), ("nought", rule(0)), ("next", rule(1))),
            look((-2,), ("nought", rule(0)), ("next", rule(1))), look([0], ("nought", rule(0)), ("next", rule(1))),
            look(0, ("nought", rule(0)), ("next", rule(1))), look((False,), ("nought", rule(0)), ("next", rule(1))),
            look((0,), ("nought", rule(0)), ("next", look((0, 0), ("nought", rule(1))))),
            look((0,), ("nought", look((0,), ("nought", rule(0)))), ("next", rule(1))),
            look((0,), ("nought", rule(0)), ("next", look((1,)))),
        ):
            self.assertIs(table_stands(program, "plus", table), False, table)

    def test_wrong_branches(self):
        one, other = ("nought", rule(0)), ("next", rule(1))
        program = Program(KINDS, FUNCTIONS)
        self.assertIs(table_stands(program, "plus", look((0,), one, other)), True)
        for branches in (
            (), (one,), (other,), (other, one), (one, one), (one, other, other), (one, one, other), (one, other, None),
            (one, other, ("end", rule(0))), (one, ("next", rule(0))), (("nought", rule(1)), other),
            (("next", rule(0)), ("nought", rule(1))), (one, ("end", rule(1))), (list(one), other), (one, (*other, 1)),
            (one, other[:1]), (one, ("next", list(rule(1)))), (one, ("next", rule(2))), (one, ("next", rule(-1))),
            (one, ("next", rule(True))), (("nought", rule(False)), other), (one, ("next", rule("1"))),
            (one, ("next", rule((1,)))), (one, ("next", None)), (one, ("next", ("rule", 1, ()))),
            (one, ("next", ("rule",))),
        ):
            self.assertIs(table_stands(program, "plus", look((0,), *branches)), False, branches)
        for thing in ([one, other], {"nought": rule(0), "next": rule(1)}, None, "ab", one, 2):
            self.assertIs(table_stands(program, "plus", ("look", (0,), thing)), False, thing)

    def test_a_rule_where_something_is_to_be_looked_at(self):
        self.assertIs(is_told(book(("num",), (NOUGHT,)), rule(0)), False)
        self.assertIs(is_told(book(("num",), (A,)), rule(0)), True)
        self.assertIs(is_told(book(("num",), (made("next", NOUGHT),)), look((0,), ("next", rule(0)))), False)
        self.assertIs(is_told(book(("num",), (A,), (A,)), rule(0)), False)
        self.assertIs(is_told(book(("num",), (A,), (A,)), rule(1)), False)

    def test_a_maker_that_no_rule_has(self):
        program = book(("num",), (NOUGHT,))
        self.assertIs(is_told(program, look((0,), ("nought", rule(0)), ("next", rule(0)))), False)
        self.assertIs(is_told(program, look((0,), ("nought", rule(0)))), True)

    def test_another_functions_table(self):
        books = [*list(pair_books(10 ** 9))[::9], *mixed_books()]
        tables = [table for program in books for table in all_tables(program)[:1]]
        for program in books:
            own = {repr(table) for table in all_tables(program)}
            for table in tables:
                self.assertIs(is_told(program, table), repr(table) in own)

    def test_what_is_told_with_a_part_changed(self):
        # By repr, since True and 1 are alike by ==.
        others = [
            *nothings(), *range(8), "look", "rule", "clash", "nought", "next", "put", "end", "yes", "no", "other", (),
            (0,), (1,), (0, 0), (0, 1), (1, 0), (0, True), (False,), rule(0), rule(1), rule(2), look((0,)),
        ]
        for program in [BOTH, book((), ()), *mixed_books()]:
            tables = all_tables(program)
            own = {repr(table) for table in tables}
            for table in tables[:2] + tables[-1:]:
                for path in places_in(table):
                    for thing in [*others, *changed(part_at(table, path))]:
                        other = put_at(table, path, thing)
                        self.assertIs(table_stands(program, "f", other), repr(other) in own, (path, thing))


def changed(part):
    """A tuple as a list and as a dict, with a part more, twice or less, and in other orders."""
    if not isinstance(part, tuple):
        return []
    more = [(*part, None), (*part, ()), part * 2, part[::-1], list(part), dict(enumerate(part))]
    less = [part[:at] + part[at + 1:] for at in range(len(part))]
    again = [part[:at + 1] + part[at:] for at in range(len(part))]
    return more + less + again


class Papers(unittest.TestCase):
    def test_whatever_is_handed_in(self):
        deep = ()
        for step in range(39):
            deep = (deep,)
        wide = look((0,), *[("nought", rule(0))] * 5000)
        nested = rule(0)
        for step in range(12):
            nested = look((0,), ("next", nested))
        for program in (BOTH, book((), ()), book((), (), ())):
            things = nothings() + [(), deep, wide, nested, A, NOUGHT, program, program.functions, ("look", deep, deep)]
            for thing in things:
                before = copy.deepcopy(thing)
                self.assertIs(is_told(program, thing), False)
                self.assertIs(clash_stands(program, "f", thing), False)
                self.assertEqual(thing, before)

    def test_told_again_it_is_alike(self):
        for program in [*mixed_books(), BOTH]:
            before = copy.deepcopy((program.kinds, program.functions))
            first = told(program)
            kept = copy.deepcopy(first)
            self.assertEqual(told(program), first)
            table_stands(program, "f", first)
            clash_stands(program, "f", first[1])
            self.assertEqual(first, kept)
            self.assertEqual((program.kinds, program.functions), before)


if __name__ == "__main__":
    unittest.main()

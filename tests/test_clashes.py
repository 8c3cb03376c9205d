"""Points 3 and 9: what stands as a clash, and what the clash that is told bears."""

import copy
import itertools
import re
import unittest

from needfill.forms import SKIP
from needfill.programs import Program
from needfill.tables import clash_stands
from tests.rulebooks import (
    END, LEAF, NO, PAIRS, YES, all_tables, book, fits, is_clash, mixed_books, pair_books, renamed, told,
)
from tests.samples import (
    A, B, C, D, FUNCTIONS, KINDS, NOUGHT, call, either, made, name, nothings, part_at, places_in, put_at, same, tower,
)

NEXT_A, NEXT_B = made("next", A), made("next", B)
ONE, TWO = name("1"), name("2")
# Each two of these rules clash, but only some of them at every pattern that they fit.
EACH = book(("num", "num"), (NOUGHT, A), (A, NOUGHT), (NEXT_A, B), (made("next", A), made("next", B)))
SHAPES = [renamed(patterns) for patterns in PAIRS]


def clash(patterns, *numbers):
    return ("clash", patterns, numbers)


def risings(many):
    """Each rising tuple of two or more of so many numbers."""
    return [row for size in range(2, many + 1) for row in itertools.combinations(range(many), size)]


class Stands(unittest.TestCase):
    def stand(self, program, *things):
        for thing in things:
            self.assertIs(clash_stands(program, "f", thing), True, thing)

    def fall(self, program, *things):
        for thing in things:
            self.assertIs(clash_stands(program, "f", thing), False, thing)

    def test_others_than_the_one_that_is_told(self):
        self.assertEqual(told(EACH), ("f", clash((ONE, TWO), 0, 1, 2, 3)))
        self.stand(
            EACH, clash((A, B), 0, 1, 2, 3), clash((A, B), 0, 1), clash((B, A), 1, 2), clash((TWO, ONE), 1, 2, 3),
            clash((ONE, TWO), 0, 1, 3), clash((made("next", ONE), TWO), 2, 3), clash((name("x"), name("999")), 0, 1, 2))

    def test_no_arguments(self):
        program = book((), (), (), ())
        self.stand(program, clash((), 0, 1), clash((), 0, 2), clash((), 1, 2), clash((), 0, 1, 2))
        self.fall(program, clash(()), clash((), 0), clash((), 0, 3), clash((A,), 0, 1), clash(A, 0, 1))

    def test_three_arguments(self):
        program = book(("num", "truth", "num"), (NOUGHT, YES, C), (A, NO, NOUGHT), (NEXT_A, B, made("next", C)))
        self.stand(program, clash((A, B, C), 0, 1, 2))
        # Of each two of them both have a made at some place.
        self.fall(program, clash((A, B, C), 0, 1), clash((A, B, C), 0, 2), clash((A, B, C), 1, 2))
        self.fall(program, clash((A, B), 0, 1, 2), clash((A, B, C, D), 0, 1, 2))

    def test_fewer_than_two_rules(self):
        self.fall(EACH, clash((A, B)), clash((A, B), 0), clash((A, B), 3))
        self.fall(book(("num",), (A,)), clash((A,)), clash((A,), 0), clash((A,), 0, 0))

    def test_rules_that_are_not_rising(self):
        program = book(("num",), (A,), (A,), (A,))
        self.stand(program, clash((A,), 0, 1), clash((A,), 1, 2), clash((A,), 0, 2), clash((A,), 0, 1, 2))
        self.fall(
            program, clash((A,), 1, 0), clash((A,), 0, 0), clash((A,), 0, 2, 1), clash((A,), 1, 1, 2),
            clash((A,), 0, 1, 1), clash((A,), 0, 1, 2, 2))

    def test_rules_that_are_not_there(self):
        program = book(("num",), (A,), (A,), (A,))
        self.fall(
            program, clash((A,), 0, 3), clash((A,), -1, 0), clash((A,), 1, 10 ** 30), clash((A,), "0", "1"),
            clash((A,), 0, None), clash((A,), (0,), (1,)), clash((A,), [0], [1]), clash((A,), 0, {}))

    def test_a_truth_for_a_number(self):
        program = book(("num",), (A,), (A,), (A,))
        self.fall(
            program, clash((A,), False, True), clash((A,), 0, True), clash((A,), False, 1), clash((A,), True, 2),
            clash((A,), 0, True, 2))

    def test_a_list_for_a_tuple(self):
        program = book(("list",), (made("put", A, END),), (made("put", NOUGHT, B),))
        good = clash((made("put", A, B),), 0, 1)
        self.stand(program, good)
        for path in places_in(good):
            part = part_at(good, path)
            if isinstance(part, tuple):
                self.fall(program, put_at(good, path, list(part)), put_at(good, path, dict(enumerate(part))))

    def test_a_name_twice_in_the_pattern(self):
        self.stand(EACH, clash((A, B), 0, 1))
        self.fall(EACH, clash((A, A), 0, 1), clash((ONE, ONE), 0, 1), clash((made("next", A), A), 2, 3))
        program = book(("list",), (made("put", A, made("put", B, C)),), (made("put", D, made("put", B, C)),))
        self.stand(program, clash((made("put", A, made("put", B, C)),), 0, 1))
        for parts in ((A, A, B), (A, B, A), (B, A, A), (A, A, A)):
            self.fall(program, clash((made("put", parts[0], made("put", *parts[1:])),), 0, 1))

    def test_a_left_side_that_does_not_fit(self):
        self.fall(
            EACH, clash((NOUGHT, A), 0, 1), clash((made("next", A), B), 1, 2), clash((A, NOUGHT), 1, 2),
            clash((made("next", A), B), 0, 2, 3), clash((tower(2), B), 2, 3), clash((made("nought", A), B), 0, 1),
            clash((made("next", A, B), C), 2, 3), clash((made("next"), C), 2, 3), clash((made("what"), C), 2, 3))

    def test_a_names_place_at_which_all_have_a_made(self):
        program = book(("num", "num"), (NOUGHT, A), (NOUGHT, NOUGHT), (NOUGHT, NEXT_B))
        self.stand(program, clash((NOUGHT, A), 0, 1), clash((NOUGHT, A), 0, 1, 2), clash((NOUGHT, A), 0, 2))
        self.fall(program, clash((A, B), 0, 1), clash((A, B), 0, 1, 2), clash((NOUGHT, A), 1, 2), clash((A, B), 1, 2))
        program = book(("tree",), (made("fork", A, LEAF, LEAF),), (made("fork", LEAF, B, LEAF),))
        self.stand(program, clash((made("fork", A, B, LEAF),), 0, 1))
        self.fall(program, clash((made("fork", A, B, C),), 0, 1), clash((A,), 0, 1))

    def test_unlike_makers_at_one_place_are_looked_at_too(self):
        program = book(("truth", "num"), (YES, A), (NO, NOUGHT), (A, NEXT_B))
        self.fall(program, clash((A, B), 0, 1), clash((A, B), 1, 2))
        self.stand(program, clash((A, B), 0, 2), clash((A, B), 0, 1, 2))

    def test_no_patterns(self):
        two = book(("num",), (A,), (A,))
        self.stand(two, clash((A,), 0, 1))
        sayings = (SKIP, call("other", A), either(A, B), same(A, B))
        for wrong in (*sayings, name("what") + ("a",), ("name",), ("made", "a")):
            self.fall(two, clash((wrong,), 0, 1), clash(wrong, 0, 1))
        for wrong in ("1000", "0", "01", "", "A", "kind", "truth", "abcdefghi", 1, None, True, ("a",)):
            self.fall(two, clash((name(wrong),), 0, 1))
        deep = book(("num",), (made("next", A),), (made("next", A),))
        for wrong in sayings:
            self.fall(deep, clash((made("next", wrong),), 0, 1))

    def test_other_forms(self):
        good = clash((A, B), 0, 1)
        self.fall(
            EACH, good[:2], (*good, ()), good[1:], ("clashes", *good[1:]), ("rule", *good[1:]), (None, *good[1:]),
            (good,), (good[0], good[2], good[1]), ("clash", A, (0, 1)), ("clash", (A, B), 1), ("clash", (A, B), None))

    def test_a_function_with_a_table_has_no_clash(self):
        program = Program(KINDS, FUNCTIONS)
        for word, many in (("plus", 2), ("alike", 2), ("some", 0)):
            for patterns in itertools.product((A, B, NOUGHT, made("next", C)), repeat=many):
                self.assertIs(clash_stands(program, word, clash(patterns, 0, 1)), False)

    def test_each_function_by_its_name(self):
        twice = ("twice", ("num",), "num", (((A,), A), ((A,), A)))
        program = Program(KINDS, (*FUNCTIONS, twice))
        self.assertIs(clash_stands(program, "twice", clash((A,), 0, 1)), True)
        self.assertIs(clash_stands(program, "plus", clash((A,), 0, 1)), False)
        self.assertIs(clash_stands(program, "plus", clash((A, B), 0, 1)), False)

    def test_every_pattern_and_rules_of_many_functions(self):
        for program in pair_books(211):
            found = False
            for patterns in SHAPES:
                for numbers in risings(len(program.functions[1][3])):
                    due = is_clash(program, patterns, numbers)
                    stands = clash_stands(program, "f", clash(patterns, *numbers))
                    self.assertIs(stands, due, (program, patterns, numbers))
                    found = found or due
            self.assertIs(found, not all_tables(program), program.functions)

    def test_what_is_told_with_a_part_changed(self):
        others = [
            *nothings(), *range(4), "clash", "nought", "next", "1", "a", "999", (), A, B, ONE, TWO, NOUGHT, NEXT_A,
            SKIP, (0, 1), (1, 0), (0, 2), (0, 1, 2), (True, 2), (A,), (A, B), (A, A),
        ]
        for program in [EACH, *mixed_books()]:
            if all_tables(program):
                continue
            good = told(program)[1]
            for path in places_in(good):
                for thing in others:
                    other = put_at(good, path, thing)
                    self.assertIs(clash_stands(program, "f", other), by_the_words(program, other), (path, thing))


def by_the_words(program, thing):
    """Whether it is a clash of f, told from its repr, so that a list is no tuple and a truth no number."""
    rules, dues = len(program.functions[1][3]), len(program.functions[1][1])
    if not isinstance(thing, tuple) or len(thing) != 3 or thing[0] != "clash":
        return False
    if repr(thing[2]) not in [repr(row) for row in risings(rules)]:
        return False
    names = []
    if not isinstance(thing[1], tuple) or len(thing[1]) != dues:
        return False
    if not all(is_pattern(part, names) for part in thing[1]):
        return False
    return len(set(names)) == len(names) and is_clash(program, *thing[1:])


def is_pattern(thing, names):
    """Whether it is a saying of names and mades alone; its names are put behind names."""
    if not isinstance(thing, tuple) or len(thing) not in (2, 3) or not isinstance(thing[1], str):
        return False
    if thing[0] == "name" and len(thing) == 2:
        names.append(thing[1])
        return re.fullmatch("(?!(kind|def|either|same|truth)$)[a-z]{1,8}|[1-9][0-9]{0,2}", thing[1]) is not None
    parts = thing[-1]
    return thing[0] == "made" and isinstance(parts, tuple) and all([is_pattern(part, names) for part in parts])


class Told(unittest.TestCase):
    def test_all_rules_that_fit_and_new_names_in_order(self):
        for program in [*pair_books(37), *mixed_books()]:
            if all_tables(program):
                continue
            word, (head, patterns, numbers) = told(program)
            self.assertEqual((word, head), ("f", "clash"))
            self.assertEqual(patterns, renamed(patterns))
            lefts = [left for left, right in program.functions[1][3]]
            fitting = [at for at, left in enumerate(lefts) if all(fits(*pair) for pair in zip(patterns, left))]
            self.assertEqual(list(numbers), fitting)
            self.assertTrue(is_clash(program, patterns, numbers))


class Papers(unittest.TestCase):
    def test_whatever_is_handed_in(self):
        deep = NOUGHT
        for step in range(19):
            deep = made("next", deep)
        wide = tuple(("name", str(at)) for at in range(1, 900))
        for program in (EACH, book((), (), ())):
            for thing in nothings() + [
                (), deep, wide, clash((deep, A), 0, 1), clash(wide, 0, 1), ("clash", (A, B), tuple(range(9000))),
                ("clash", wide, wide), ("clash", deep, deep), program, told(program), (program,) * 3,
            ]:
                before = copy.deepcopy(thing)
                self.assertIs(clash_stands(program, "f", thing), False)
                self.assertIs(clash_stands(program, "f", thing), False)
                self.assertEqual(thing, before)


if __name__ == "__main__":
    unittest.main()

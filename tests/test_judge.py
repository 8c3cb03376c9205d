"""Points 11 and 12: the verdict of two unfinished things, what a saying comes to by a tree, and a tree's turns."""

import copy
import itertools
import unittest

from needfill.forms import NO, SKIP, YES, filled, fitted, nodes_of
from needfill.judge import comes_to, tree_turns, verdict
from needfill.kinds import kind_of
from needfill.programs import Program
from tests.samples import (
    A, ALIKE, B, C, D, KINDS, NOUGHT, PLUS, SOME, call, either, made, name, nothings, part_at, places_in, put_at, same,
    tower,
)

END = made("end")
TREE = ("tree", (("leaf", ()), ("fork", ("tree", "tree", "tree"))))
TWIN = ("twin", ("num",), "list", (((A,), made("put", A, made("put", A, END))),))
FIRST = ("first", ("list",), "num", (((made("put", A, B),), A),))
WIDE = ("wide", ("tree",), "tree", (((A,), made("fork", A, A, made("leaf"))),))
LOOP = ("loop", ("num",), "num", (((A,), call("loop", A)), ((tower(4),), NOUGHT)))
HEIGHT = ("height", ("num",), "num", (((A,), made("next", made("next", made("next", A)))),))
PROGRAM = Program((*KINDS, TREE), (PLUS, SOME, TWIN, FIRST, LOOP, HEIGHT))
GROWING = Program((*KINDS, TREE), (WIDE, ALIKE))
NAMES = (("a", "num"), ("b", "list"), ("c", "num"), ("d", "list"))

AS, LEFT, RIGHT = ("as",), "left", "right"


def rule(number, trees, rest):
    return ("rule", number, trees, rest)


def parts(*trees):
    return ("made", trees)


def chain(many, last=SKIP):
    """A tree of so many rule rows for a call of loop."""
    tree = last
    for step in range(many):
        tree = rule(0, (AS,), tree)
    return tree


def truth_of(one, other):
    """The verdict, once more by the words of point 11."""
    if one[0] == "made" and other[0] == "made":
        if one[1] != other[1]:
            return NO, 1
        count = 1
        for pair in zip(one[2], other[2]):
            truth, more = truth_of(*pair)
            count += more
            if truth != YES:
                return truth, count
        return YES, count
    return (YES if one == other and one[0] == "name" else None), 0


def shown(program, saying, rows):
    """Every (tree, thing, rule rows, pairs) of a saying with at most so many rule rows, by the words of point 11."""
    found = [(SKIP, SKIP, 0, 0)]
    if all(node[0] in ("made", "name", "skip") for path, node in nodes_of(saying)):
        found.append((AS, saying, 0, 0))
    if saying[0] == "made":
        for trees, things, used, pairs in shown_parts(program, saying[2], rows):
            found.append((parts(*trees), made(saying[1], *things), used, pairs))
    elif saying[0] == "call":
        found += shown_call(program, saying, rows)
    elif saying[0] == "either":
        found += [((LEFT, tree), *rest) for tree, *rest in shown(program, saying[1], rows)]
        found += [((RIGHT, tree), *rest) for tree, *rest in shown(program, saying[2], rows)]
    elif saying[0] == "same":
        for trees, things, used, pairs in shown_parts(program, saying[1:], rows):
            truth, more = truth_of(*things)
            if truth is not None:
                found.append((("same", *trees), truth, used, pairs + more))
    return found


def shown_parts(program, sayings, rows):
    """Every (trees, things, rule rows, pairs) of some sayings, one beside another."""
    each = [shown(program, saying, rows) for saying in sayings]
    for row in itertools.product(*each):
        used = sum(shows[2] for shows in row)
        if used <= rows:
            yield tuple(s[0] for s in row), tuple(s[1] for s in row), used, sum(s[3] for s in row)


def shown_call(program, saying, rows):
    """Every (tree, thing, rule rows, pairs) of a call by a rule row."""
    rules = {word: rules for word, dues, kind, rules in program.functions}[saying[1]]
    found = []
    if rows == 0:
        return found
    for trees, things, used, pairs in shown_parts(program, saying[2], rows - 1):
        for number, (left, right) in enumerate(rules):
            fills = [fitted(*pair) for pair in zip(left, things)]
            if None not in fills:
                after = filled(right, sum(fills, ()))
                for tree, thing, more, others in shown(program, after, rows - 1 - used):
                    found.append((rule(number, trees, tree), thing, used + more + 1, pairs + others))
    return found


# Sayings that are right, some of them with skips, and how many rule rows their trees are tried with.
ASKED = (
    (A, 1), (SKIP, 1), (NOUGHT, 1), (made("put", A, SKIP), 1), (made("put", NOUGHT, made("put", A, B)), 1),
    (call("plus", NOUGHT, A), 2), (call("plus", tower(2), A), 2), (call("plus", A, NOUGHT), 2),
    (call("plus", made("next", SKIP), A), 2), (call("plus", SKIP, A), 2), (made("put", call("some"), B), 3),
    (call("some"), 3), (either(A, NOUGHT), 1), (either(call("some"), either(A, C)), 2), (call("twin", call("some")), 2),
    (same(A, A), 1), (same(A, C), 1), (same(tower(2), tower(3)), 1), (same(made("put", A, SKIP), made("put", A, B)), 1),
    (same(made("put", A, B), either(made("put", A, END), END)), 1), (same(call("some"), NOUGHT), 2),
    (same(same(A, A), same(NOUGHT, tower(2))), 1), (call("first", call("twin", either(A, C))), 2),
    (call("loop", tower(4)), 3), (call("height", A), 1),
)
STANDING = [(saying, shows) for saying, rows in ASKED for shows in shown(PROGRAM, saying, rows)]


class Verdict(unittest.TestCase):
    def told(self, one, other, truth, pairs):
        self.assertEqual(verdict(one, other), (truth, pairs))
        self.assertEqual(verdict(other, one), (truth, pairs))

    def test_two_mades(self):
        self.told(NOUGHT, NOUGHT, YES, 1)
        self.told(YES, YES, YES, 1)
        self.told(NOUGHT, made("next", A), NO, 1)
        self.told(YES, NO, NO, 1)
        self.told(tower(3), tower(3), YES, 3)
        self.told(tower(3), tower(5), NO, 3)
        self.told(made("put", NOUGHT, END), made("put", NOUGHT, END), YES, 3)

    def test_names(self):
        self.told(A, A, YES, 0)
        self.told(name("1"), name("1"), YES, 0)
        self.told(A, B, None, 0)
        self.told(name("1"), name("11"), None, 0)
        self.told(A, NOUGHT, None, 0)
        self.told(made("next", A), made("next", A), YES, 1)
        self.told(made("next", A), made("next", B), None, 1)
        self.told(name("nought"), NOUGHT, None, 0)

    def test_skips(self):
        self.told(SKIP, SKIP, None, 0)
        self.told(SKIP, A, None, 0)
        self.told(SKIP, NOUGHT, None, 0)
        self.told(made("next", SKIP), made("next", SKIP), None, 1)
        self.told(made("next", SKIP), made("next", NOUGHT), None, 1)
        self.told(made("next", SKIP), NOUGHT, NO, 1)

    def test_parts_as_far_as_the_first_that_is_not_yes(self):
        one = made("fork", NOUGHT, A, NOUGHT)
        self.told(one, made("fork", END, A, NOUGHT), NO, 2)
        self.told(one, made("fork", END, B, END), NO, 2)
        self.told(one, made("fork", NOUGHT, B, END), None, 2)
        self.told(one, made("fork", NOUGHT, A, END), NO, 3)
        self.told(one, made("fork", NOUGHT, A, NOUGHT), YES, 3)
        self.told(one, made("fork", SKIP, A, END), None, 1)
        self.told(one, made("fork", NOUGHT, SKIP, END), None, 2)
        self.told(one, made("fork", NOUGHT, A, SKIP), None, 2)
        self.told(made("fork", A, A, A), made("fork", A, A, A), YES, 1)

    def test_each_part_is_gone_through_ahead_of_the_next(self):
        one = made("put", tower(3), made("put", NOUGHT, END))
        self.told(one, made("put", tower(3), made("put", tower(2), END)), NO, 6)
        self.told(one, made("put", tower(4), END), NO, 4)
        self.told(one, made("put", made("next", SKIP), END), None, 2)
        self.told(one, made("put", tower(3), END), NO, 5)
        self.told(one, one, YES, 7)

    def test_every_two_of_many(self):
        small = [A, B, SKIP, NOUGHT, END]
        things = small + [made("put", *pair) for pair in itertools.product(small, repeat=2)]
        things += [made("fork", *row) for row in itertools.product((A, SKIP, NOUGHT, made("next", A)), repeat=3)]
        for one, other in itertools.product(things, repeat=2):
            self.assertEqual(verdict(one, other), truth_of(one, other))

    def test_large_things(self):
        self.told(tower(200), tower(200), YES, 200)
        self.told(tower(200), tower(201), NO, 200)


class Rows(unittest.TestCase):
    def shows(self, saying, tree, thing, turns=0, program=PROGRAM):
        self.assertEqual(comes_to(program, saying, tree), thing)
        self.assertEqual(tree_turns(program, saying, tree), turns)

    def falls(self, saying, *trees, program=PROGRAM):
        for tree in trees:
            self.assertIsNone(comes_to(program, saying, tree), tree)
            self.assertIsNone(tree_turns(program, saying, tree), tree)

    def test_each_row_for_each_form(self):
        sayings = (A, NOUGHT, made("next", A), SKIP, call("some"), either(A, C), same(A, A))
        stands = {
            SKIP: dict.fromkeys(sayings, SKIP),
            AS: {A: A, NOUGHT: NOUGHT, made("next", A): made("next", A), SKIP: SKIP},
            parts(): {NOUGHT: NOUGHT},
            parts(AS): {made("next", A): made("next", A)},
            parts(SKIP): {made("next", A): made("next", SKIP)},
            rule(0, (), SKIP): {call("some"): SKIP},
            rule(0, (), (LEFT, AS)): {call("some"): NOUGHT},
            (LEFT, AS): {either(A, C): A},
            (RIGHT, AS): {either(A, C): C},
            ("same", AS, AS): {same(A, A): YES},
        }
        for tree, due in stands.items():
            for saying in sayings:
                self.assertEqual(comes_to(PROGRAM, saying, tree), due.get(saying), (saying, tree))
                self.assertEqual(tree_turns(PROGRAM, saying, tree) is None, saying not in due, (saying, tree))

    def test_as_of_what_is_no_unfinished_thing(self):
        for saying in (call("some"), either(A, A), same(A, A)):
            self.falls(saying, AS)
            self.falls(made("put", A, saying), AS)
        self.shows(made("put", A, made("put", SKIP, B)), AS, made("put", A, made("put", SKIP, B)))

    def test_made(self):
        saying = made("put", call("some"), either(B, END))
        self.shows(saying, parts(SKIP, (RIGHT, AS)), made("put", SKIP, END))
        self.shows(saying, parts(rule(0, (), (LEFT, AS)), SKIP), made("put", NOUGHT, SKIP), 1)
        self.falls(saying, parts(AS, SKIP), parts(SKIP, AS), parts(SKIP), parts(SKIP, SKIP, SKIP), parts(), ("made",))
        self.falls(saying, ("made", [SKIP, SKIP]), ("made", SKIP, SKIP), ("made", "put", (SKIP, SKIP)))
        self.falls(NOUGHT, parts(SKIP), ("made", []), ("made", None), ("made", ""), ("made", 0), ("made", (), ()))

    def test_rule(self):
        saying = call("plus", made("next", A), either(C, NOUGHT))
        self.shows(saying, rule(1, (AS, SKIP), SKIP), SKIP, 1)
        self.shows(saying, rule(1, (AS, (LEFT, AS)), parts(SKIP)), made("next", SKIP), 1)
        self.shows(call("plus", tower(2), C), rule(1, (AS, AS), parts(rule(0, (AS, AS), AS))), made("next", C), 2)
        self.shows(call("plus", tower(2), C), rule(1, (parts(SKIP), AS), parts(SKIP)), made("next", SKIP), 1)

    def test_the_tree_behind_shows_what_the_filled_right_side_comes_to(self):
        self.shows(call("plus", NOUGHT, either(A, C)), rule(0, (AS, (RIGHT, AS)), AS), C, 1)
        self.shows(call("plus", NOUGHT, either(A, C)), rule(0, (AS, (RIGHT, AS)), SKIP), SKIP, 1)
        self.falls(call("plus", NOUGHT, either(A, C)), rule(0, (AS, (RIGHT, AS)), (RIGHT, AS)))
        self.falls(call("plus", NOUGHT, either(A, C)), rule(0, (AS, AS), AS))
        self.shows(call("first", made("put", tower(2), SKIP)), rule(0, (AS,), parts(AS)), tower(2), 1)

    def test_rules_that_do_not_fit(self):
        self.falls(call("plus", NOUGHT, A), rule(1, (AS, AS), SKIP), rule(1, (AS, AS), parts(SKIP)))
        self.falls(call("plus", tower(2), A), rule(0, (AS, AS), SKIP), rule(0, (AS, AS), AS))
        self.falls(call("first", END), rule(0, (AS,), SKIP))
        self.falls(call("loop", tower(3)), rule(1, (AS,), SKIP))
        self.shows(call("loop", tower(4)), rule(1, (AS,), SKIP), SKIP, 1)

    def test_a_skip_or_a_name_for_what_must_be_looked_at(self):
        for number in (0, 1):
            self.falls(call("plus", NOUGHT, A), rule(number, (SKIP, AS), SKIP))
            self.falls(call("plus", tower(2), A), rule(number, (SKIP, AS), SKIP))
            self.falls(call("plus", A, C), rule(number, (AS, AS), SKIP))
            self.falls(call("plus", SKIP, C), rule(number, (AS, AS), SKIP), rule(number, (SKIP, AS), SKIP))
        self.falls(call("loop", tower(4)), rule(1, (parts(parts(SKIP)),), SKIP))
        self.shows(call("loop", tower(4)), rule(0, (parts(parts(SKIP)),), SKIP), SKIP, 1)

    def test_a_rules_number_that_is_not_there(self):
        saying = call("plus", tower(2), A)
        self.shows(saying, rule(1, (AS, AS), SKIP), SKIP, 1)
        for number in (2, 8, -1, -2, 10 ** 30, True, False, None, "1", (1,), [1], {}, ()):
            self.falls(saying, rule(number, (AS, AS), SKIP))
        self.falls(call("plus", NOUGHT, A), rule(False, (AS, AS), AS))
        self.falls(call("some"), rule(False, (), SKIP), rule(1, (), SKIP), rule(-1, (), SKIP))

    def test_trees_too_few_and_too_many(self):
        for trees in ((), (AS,), (AS, AS, AS), [AS, AS], {0: AS, 1: AS}, AS, None, "ab", (AS, None), (None, AS)):
            self.falls(call("plus", NOUGHT, A), rule(0, trees, AS))
        self.falls(call("some"), rule(0, (SKIP,), SKIP), rule(0, SKIP, SKIP), rule(0, [], SKIP), rule(0, None, SKIP))
        self.falls(call("some"), ("rule",), ("rule", 0), ("rule", 0, ()), ("rule", 0, (), SKIP, SKIP))
        self.falls(either(A, C), (LEFT,), (LEFT, AS, AS), (RIGHT,), (RIGHT, AS, AS), ("either", AS), ("left", [AS]))
        self.falls(same(A, A), ("same",), ("same", AS), ("same", AS, AS, AS), ("same", (AS, AS)), ["same", AS, AS])
        self.falls(A, ("as", AS), ("skip", AS), (AS,), (SKIP,), ("name", "a"))

    def test_either(self):
        saying = either(either(A, C), call("plus", NOUGHT, A))
        self.shows(saying, (LEFT, (RIGHT, AS)), C)
        self.shows(saying, (LEFT, (LEFT, AS)), A)
        self.shows(saying, (RIGHT, rule(0, (AS, AS), AS)), A, 1)
        self.shows(saying, (LEFT, SKIP), SKIP)
        self.falls(saying, (LEFT, AS), (RIGHT, (RIGHT, AS)), (LEFT, (LEFT, (LEFT, AS))))

    def test_same(self):
        self.shows(same(tower(2), tower(2)), ("same", AS, AS), YES, 2)
        self.shows(same(tower(2), tower(3)), ("same", AS, AS), NO, 2)
        self.shows(same(tower(2), tower(3)), ("same", AS, parts(AS)), NO, 2)
        self.shows(same(tower(2), NOUGHT), ("same", parts(SKIP), AS), NO, 1)
        self.shows(same(call("some"), NOUGHT), ("same", rule(0, (), (RIGHT, parts(SKIP))), AS), NO, 2)
        self.shows(same(call("some"), NOUGHT), ("same", rule(0, (), (LEFT, AS)), AS), YES, 2)
        self.shows(same(made("put", A, B), made("put", A, B)), ("same", AS, AS), YES, 1)

    def test_a_same_without_a_verdict(self):
        self.falls(same(A, C), ("same", AS, AS))
        self.falls(same(A, A), ("same", SKIP, AS), ("same", AS, SKIP), ("same", SKIP, SKIP))
        self.falls(same(A, NOUGHT), ("same", AS, AS))
        self.falls(same(tower(2), tower(2)), ("same", parts(SKIP), AS))
        self.falls(made("put", A, same(A, C)), parts(AS, ("same", AS, AS)))

    def test_sames_within_sames(self):
        inner = same(tower(2), tower(2))
        row = ("same", AS, AS)
        self.shows(same(inner, inner), ("same", row, row), YES, 2 + 2 + 1)
        self.shows(same(inner, same(NOUGHT, tower(5))), ("same", row, row), NO, 2 + 1 + 1)
        self.shows(same(same(inner, YES), same(A, A)), ("same", ("same", row, AS), row), YES, 2 + 1 + 0 + 1)
        saying = same(call("plus", tower(2), NOUGHT), call("plus", NOUGHT, tower(2)))
        one = rule(1, (AS, AS), parts(rule(0, (AS, AS), AS)))
        self.shows(same(saying, NO), ("same", ("same", one, rule(0, (AS, AS), AS)), AS), NO, 3 + 2 + 1)
        self.falls(same(saying, NO), ("same", ("same", parts(AS, AS), rule(0, (AS, AS), AS)), AS))

    def test_an_argument_is_one_thing_wherever_its_name_stands(self):
        saying = call("twin", either(A, C))
        self.shows(saying, rule(0, ((LEFT, AS),), AS), made("put", A, made("put", A, END)), 1)
        self.shows(saying, rule(0, ((RIGHT, AS),), AS), made("put", C, made("put", C, END)), 1)
        self.falls(saying, rule(0, (AS,), parts((LEFT, AS), parts((RIGHT, AS), AS))))
        self.shows(saying, rule(0, ((LEFT, AS),), parts(SKIP, AS)), made("put", SKIP, made("put", A, END)), 1)

    def test_names_that_are_filled_are_not_filled_again(self):
        self.shows(call("plus", made("next", B), A), rule(1, (AS, AS), parts(SKIP)), made("next", SKIP), 1)
        saying = call("twin", either(made("next", A), C))
        two = made("next", A)
        self.shows(saying, rule(0, ((LEFT, AS),), AS), made("put", two, made("put", two, END)), 1)

    def test_every_tree_with_few_rule_rows(self):
        for saying, (tree, thing, rows, pairs) in STANDING:
            self.shows(saying, tree, thing, rows + pairs)


class Bounds(unittest.TestCase):
    def told(self, saying, tree, program=PROGRAM):
        return comes_to(program, saying, tree), tree_turns(program, saying, tree)

    def test_eight_rule_rows_and_nine(self):
        for many in range(13):
            due = (SKIP, many) if many <= 8 else (None, None)
            self.assertEqual(self.told(call("loop", A), chain(many)), due, many)

    def test_eight_beside_one_another(self):
        saying = same(made("put", call("loop", A), B), END)
        for many in range(5, 12):
            tree = ("same", parts(chain(many), AS), AS)
            self.assertEqual(self.told(saying, tree), (NO, many + 1) if many <= 8 else (None, None), many)
        saying = made("put", call("loop", A), made("put", call("loop", C), B))
        for one, other in itertools.product(range(10), repeat=2):
            due = one + other if one + other <= 8 else None
            self.assertEqual(self.told(saying, parts(chain(one), parts(chain(other), AS)))[1], due, (one, other))

    def test_rows_of_arguments_count_with_those_behind(self):
        saying = call("loop", call("loop", A))
        for one, other in itertools.product(range(10), repeat=2):
            tree = rule(0, (chain(one),), chain(other))
            many = one + other + 1
            due = many if many <= 8 else None
            self.assertEqual(self.told(saying, tree)[1], due, (one, other))

    def test_pairs_do_not_count_as_rule_rows(self):
        saying = same(made("put", tower(8), call("twin", NOUGHT)), made("put", tower(8), END))
        tree = ("same", parts(AS, rule(0, (AS,), AS)), AS)
        self.assertEqual(self.told(saying, tree), (NO, 1 + 1 + 8 + 1))

    def test_what_comes_by_a_tree_may_be_large(self):
        saying, tree, thing = A, AS, A
        for step in range(7):
            saying = call("height", saying)
            tree = rule(0, (tree,), AS)
            thing = made("next", made("next", made("next", thing)))
        self.assertEqual(self.told(saying, tree), (thing, 7))
        saying, tree, thing = made("leaf"), AS, made("leaf")
        for step in range(8):
            saying = call("wide", saying)
            tree = rule(0, (tree,), AS)
            thing = made("fork", thing, thing, made("leaf"))
        self.assertEqual(self.told(saying, tree, GROWING), (thing, 8))
        tree = ("same", tree, AS)
        self.assertEqual(self.told(same(saying, thing), tree, GROWING), (YES, 8 + len(nodes_of(thing))))


class Filled(unittest.TestCase):
    def test_the_same_tree_shows_the_thing_filled(self):
        fills = (
            (("a", NOUGHT), ("b", END), ("c", NOUGHT)),
            (("a", C), ("b", made("put", A, B)), ("c", A)),
            (("a", made("next", name("1"))), ("b", made("put", name("1"), name("2"))), ("c", tower(3))),
            (("b", D),),
        )
        for saying, (tree, thing, rows, pairs) in STANDING:
            for row in fills:
                after = filled(saying, row)
                self.assertEqual(comes_to(PROGRAM, after, tree), filled(thing, row), (saying, tree, row))
                self.assertGreaterEqual(tree_turns(PROGRAM, after, tree), rows + pairs)

    def test_what_was_alike_as_a_name_may_want_more_turns(self):
        tree = ("same", AS, AS)
        self.assertEqual(tree_turns(PROGRAM, same(A, A), tree), 0)
        self.assertEqual(tree_turns(PROGRAM, same(tower(4), tower(4)), tree), 4)

    def test_what_is_shown_is_of_the_sayings_kind(self):
        for saying, (tree, thing, rows, pairs) in STANDING:
            heads = [node[0] for path, node in nodes_of(saying) + nodes_of(thing)]
            if "skip" not in heads:
                self.assertEqual(kind_of(PROGRAM, NAMES, saying), kind_of(PROGRAM, NAMES, thing))


class Papers(unittest.TestCase):
    def test_whatever_is_handed_in_as_a_tree(self):
        deep = SKIP
        for step in range(38):
            deep = (LEFT, deep)
        made_deep = ()
        for step in range(19):
            made_deep = ("made", (made_deep,))
        wide = parts(*[AS] * 9000)
        things = nothings() + [(), A, NOUGHT, deep, made_deep, wide, rule(0, wide[1], wide), PROGRAM, (PROGRAM,) * 4]
        for saying, rows in ASKED:
            for tree in things:
                before = copy.deepcopy(tree)
                for step in range(2):
                    self.assertIsNone(comes_to(PROGRAM, saying, tree))
                    self.assertIsNone(tree_turns(PROGRAM, saying, tree))
                self.assertEqual(tree, before)

    def test_a_tree_with_a_part_changed(self):
        others = [
            *nothings(), *range(3), *"skip as made rule left right same name".split(), (), SKIP, AS, parts(), parts(AS),
            (LEFT, AS), (RIGHT, SKIP), ("same", AS, AS), rule(0, (), (LEFT, AS)), (AS,), (AS, AS), [AS], (SKIP, AS),
        ]
        for saying, rows in ASKED:
            # Changed trees may have one rule row more than those that they come from.
            due = {repr(tree): (thing, used + pairs) for tree, thing, used, pairs in shown(PROGRAM, saying, rows + 1)}
            for tree, *rest in shown(PROGRAM, saying, rows)[:400:7]:
                for path in places_in(tree):
                    for thing in others:
                        other = put_at(tree, path, thing)
                        told = comes_to(PROGRAM, saying, other), tree_turns(PROGRAM, saying, other)
                        self.assertEqual(told, due.get(repr(other), (None, None)), (saying, other))

    def test_lists_for_tuples(self):
        for saying, (tree, *rest) in STANDING[::5]:
            for path in places_in(tree):
                part = part_at(tree, path)
                if isinstance(part, tuple):
                    for other in (list(part), dict(enumerate(part)), (*part, AS), (*part, None)):
                        self.assertIsNone(comes_to(PROGRAM, saying, put_at(tree, path, other)))
                        self.assertIsNone(tree_turns(PROGRAM, saying, put_at(tree, path, other)))

    def test_told_again_it_is_alike(self):
        whole = copy.deepcopy((PROGRAM.kinds, PROGRAM.functions))
        for saying, (tree, *rest) in STANDING[::3]:
            before = copy.deepcopy((saying, tree))
            thing = comes_to(PROGRAM, saying, tree)
            kept = copy.deepcopy(thing)
            self.assertEqual(comes_to(PROGRAM, saying, tree), thing)
            self.assertEqual(tree_turns(PROGRAM, saying, tree), tree_turns(PROGRAM, saying, tree))
            self.assertEqual((saying, tree, thing), (*before, kept))
        self.assertEqual((PROGRAM.kinds, PROGRAM.functions), whole)


if __name__ == "__main__":
    unittest.main()

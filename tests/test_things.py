"""Point 23: plain things of a kind, and fillings of names by them."""

import itertools
import unittest

from needfill.forms import is_plain, nodes_of
from needfill.plain import fillings, things
from needfill.programs import Program
from tests.books import END, LEAF, LISTS, NO, NUMBERS, TREES, YES, fork
from tests.samples import NOUGHT, made, tower

MIXED = Program((
    ("odd", (("one", ("even",)), ("flag", ("truth", "odd")), ("base", ()))),
    ("even", (("two", ("odd",)), ("pair", ("even", "odd")), ("none", ()))),
), ())


def put(one, rest):
    return made("put", one, rest)


def all_of(program, kind, size):
    """All plain things of a kind with at most so many nodes, in whatever order."""
    if size < 1:
        return []
    found = []
    for maker, kinds in program.makers(kind):
        rows = [all_of(program, part, size - 1) for part in kinds]
        found += [made(maker, *parts) for parts in itertools.product(*rows)]
    return [thing for thing in found if len(nodes_of(thing)) <= size]


def key(program, kind, thing):
    """What the told order goes by."""
    makers = program.makers(kind)
    at = [maker for maker, parts in makers].index(thing[1])
    return (len(nodes_of(thing)), at, [key(program, *pair) for pair in zip(makers[at][1], thing[2])])


class Things(unittest.TestCase):
    def test_truth(self):
        for size in range(1, 6):
            self.assertEqual(things(NUMBERS, "truth", size=size), (YES, NO))
        self.assertEqual(things(Program((), ()), "truth"), (YES, NO))

    def test_numbers(self):
        for size in range(1, 6):
            self.assertEqual(things(NUMBERS, "num", size=size), tuple(tower(many) for many in range(1, size + 1)))
        self.assertEqual(things(NUMBERS, "num"), (tower(1), tower(2), tower(3)))

    def test_lists(self):
        first = (END, put(NOUGHT, END), put(tower(2), END))
        five = (put(NOUGHT, put(NOUGHT, END)), put(tower(3), END))
        self.assertEqual(things(LISTS, "list", size=1), first[:1])
        self.assertEqual(things(LISTS, "list", size=2), first[:1])
        self.assertEqual(things(LISTS, "list", size=3), first[:2])
        self.assertEqual(things(LISTS, "list", size=4), first)
        self.assertEqual(things(LISTS, "list", size=5), (*first, *five))
        self.assertEqual(things(LISTS, "list"), first[:2])

    def test_kinds_that_have_none_of_some_size(self):
        four = fork(LEAF, LEAF, LEAF)
        self.assertEqual(things(TREES, "tree"), (LEAF,))
        self.assertEqual(things(TREES, "tree", size=4), (LEAF, four))
        self.assertEqual(things(TREES, "tree", size=5), (LEAF, four))
        self.assertEqual(things(TREES, "unit", size=5), (made("only"),))
        deep = Program((("a", (("wrap", ("b",)),)), ("b", (("pack", ("truth",)),))), ())
        self.assertEqual(things(deep, "a", size=2), ())
        self.assertEqual(things(deep, "a"), (made("wrap", made("pack", YES)), made("wrap", made("pack", NO))))

    def test_by_nodes_then_makers_then_parts(self):
        self.assertEqual(things(MIXED, "odd", size=3), (
            made("base"), made("one", made("none")),
            made("one", made("two", made("base"))), made("flag", YES, made("base")), made("flag", NO, made("base")),
        ))

    def test_all_of_them_in_the_told_order_none_twice(self):
        for program in (NUMBERS, LISTS, TREES, MIXED):
            for kind in ["truth"] + [kind for kind, makers in program.kinds]:
                for size in range(1, 6):
                    told = things(program, kind, size=size)
                    due = sorted(all_of(program, kind, size), key=lambda thing: key(program, kind, thing))
                    self.assertIsInstance(told, tuple)
                    self.assertEqual(list(told), due)
                    self.assertEqual(len(set(told)), len(told))
                    self.assertTrue(all(is_plain(thing) for thing in told))

    def test_a_lesser_sizes_first(self):
        for program in (LISTS, TREES, MIXED):
            for kind in [kind for kind, makers in program.kinds]:
                for size in range(1, 5):
                    fewer, more = things(program, kind, size=size), things(program, kind, size=size + 1)
                    self.assertEqual(more[:len(fewer)], fewer)

    def test_the_size_that_is_left_out(self):
        for program in (NUMBERS, LISTS, TREES, MIXED):
            for kind in ["truth"] + [kind for kind, makers in program.kinds]:
                self.assertEqual(things(program, kind), things(program, kind, size=3))


class Fillings(unittest.TestCase):
    def test_no_names(self):
        for size in range(1, 6):
            self.assertEqual(fillings(NUMBERS, (), size=size), ((),))
        self.assertEqual(fillings(NUMBERS, ()), ((),))

    def test_one_name(self):
        self.assertEqual(fillings(NUMBERS, (("x", "num"),), size=2), ((("x", tower(1)),), (("x", tower(2)),)))
        self.assertEqual(fillings(NUMBERS, (("x", "truth"),)), ((("x", YES),), (("x", NO),)))

    def test_the_first_names_things_go_slowest(self):
        due = tuple((("y", one), ("x", other)) for one in (tower(1), tower(2)) for other in (YES, NO))
        self.assertEqual(fillings(NUMBERS, (("y", "num"), ("x", "truth")), size=2), due)
        names = (("w", "num"), ("x", "list"), ("y", "truth"), ("z", "num"))
        rows = itertools.product(*[things(LISTS, kind, size=4) for name, kind in names])
        due = tuple(tuple(zip("wxyz", row)) for row in rows)
        self.assertEqual(fillings(LISTS, names, size=4), due)

    def test_a_name_without_a_thing(self):
        deep = Program((("a", (("wrap", ("truth",)),)),), ())
        self.assertEqual(fillings(deep, (("x", "truth"), ("y", "a")), size=1), ())
        self.assertEqual(len(fillings(deep, (("x", "truth"), ("y", "a")), size=2)), 4)

    def test_the_size_that_is_left_out(self):
        names = (("x", "list"), ("y", "num"))
        self.assertEqual(fillings(LISTS, names), fillings(LISTS, names, size=3))
        self.assertEqual(len(fillings(LISTS, names)), 6)


if __name__ == "__main__":
    unittest.main()

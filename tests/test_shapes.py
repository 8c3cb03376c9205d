"""Points 4 and 5: the place (), for whatever isn't of a program's form, and the bounds of counts and sizes."""

import copy
import unittest

from needfill.forms import SKIP, nodes_of
from tests.samples import (
    A, B, FUNCTIONS, KINDS, LIST, NOUGHT, NUM, call, either, made, name, nothings, of_nodes, part_at, place_of,
    places_in, put_at, same, tower,
)

WHOLE = (KINDS, FUNCTIONS)
# "either" and "same" can stand for one another as the heads of sayings.
FORMLESS = [thing for thing in nothings() if thing not in ("either", "same")]


def tri(right):
    """The functions of a program with that right side, and a function of three arguments to use in it."""
    dues = ("num", "num", "num")
    return (
        ("tri", dues, "num", (((A, B, name("c")), A),)),
        ("f", (), "num", (((), right),)),
    )


def pattern_of(*patterns):
    """The functions of a program with that left side."""
    return (("f", ("num",) * len(patterns), "num", ((patterns, NOUGHT),)),)


class Formless(unittest.TestCase):
    def test_whatever_is_handed_in(self):
        for thing in FORMLESS + ["num", A, NUM, (NUM, None), (("num", ()),)]:
            before = copy.deepcopy(thing)
            self.assertEqual(place_of(thing, ()), (), thing)
            self.assertEqual(place_of((), thing), (), thing)
            self.assertEqual(place_of(thing, thing), ())
            self.assertEqual(thing, before)

    def test_any_part_that_is_nothing(self):
        for path in places_in(WHOLE):
            if path:
                for thing in FORMLESS:
                    self.assertEqual(place_of(*put_at(WHOLE, path, thing)), (), (path, thing))

    def test_a_list_where_a_tuple_is_due(self):
        for path in places_in(WHOLE):
            part = part_at(WHOLE, path)
            if path and isinstance(part, tuple):
                self.assertEqual(place_of(*put_at(WHOLE, path, list(part))), (), path)
                self.assertEqual(place_of(*put_at(WHOLE, path, dict(enumerate(part)))), (), path)

    def test_a_part_too_few_or_too_many(self):
        rows = [(0, 0), (0, 0, 1, 0), (1, 0), (1, 0, 3, 0)]
        sayings = [(1, 0, 3, 1, 1), (1, 0, 3, 1, 0, 0), (1, 1, 3, 0, 1), (1, 2, 3, 0, 1), (1, 0, 3, 0, 1)]
        for path in rows + sayings:
            part = part_at(WHOLE, path)
            self.assertEqual(place_of(*put_at(WHOLE, path, part[:-1])), (), path)
            for more in ((), "a", A, None, part[-1]):
                self.assertEqual(place_of(*put_at(WHOLE, path, (*part, more))), (), path)

    def test_kinds_are_words_and_truth_stands_beside_them(self):
        self.assertEqual(place_of((("truth", (("t", ()),)),), ()), ())
        self.assertEqual(place_of((("k", (("truth", ()),)),), ()), ())
        self.assertIsNone(place_of((("k", (("t", ("truth",)),)),), ()))
        self.assertIsNone(place_of((), (("f", ("truth",), "truth", (((A,), A),)),)))
        self.assertEqual(place_of((), (("truth", ("truth",), "truth", (((A,), A),)),)), ())
        for word in ("1", "kind", "def", "either", "same"):
            self.assertEqual(place_of((("k", (("t", (word,)),)),), ()), ())
            self.assertEqual(place_of((), (("f", (word,), "truth", (((A,), A),)),)), ())
            self.assertEqual(place_of((), (("f", ("truth",), word, (((A,), A),)),)), ())

    def test_no_skip_and_no_new_name(self):
        for wrong in (SKIP, name("1"), name("999")):
            for inside in (wrong, made("next", wrong), either(wrong, NOUGHT), call("plus", NOUGHT, wrong)):
                self.assertEqual(place_of(KINDS, (FUNCTIONS[0], *tri(inside))), (), inside)
                self.assertEqual(place_of(KINDS, (FUNCTIONS[0], *pattern_of(inside))), (), inside)

    def test_other_heads(self):
        for wrong in (("what",), ("name",), ("made",), ("skips",), ("what", "a"), ("what", "a", ()), ("what", A, B)):
            for inside in (wrong, made("next", wrong), either(NOUGHT, wrong)):
                self.assertEqual(place_of(KINDS, tri(inside)), (), inside)
                self.assertEqual(place_of(KINDS, pattern_of(inside)), (), inside)

    def test_words_of_sayings_are_words_too(self):
        for word in ("skip", "name", "made", "call"):
            functions = (("f", ("num",), "num", (((name(word),), call("f", made("next", name(word)))),)),)
            self.assertIsNone(place_of(KINDS, functions), word)
            self.assertIsNone(place_of(((word, ((word, ()),)),), ()), word)

    def test_the_form_comes_first(self):
        twice = (NUM, NUM)
        self.assertEqual(place_of(twice, ()), ("kind", 1))
        self.assertEqual(place_of(twice, None), ())
        self.assertEqual(place_of(twice, tri(SKIP)), ())
        self.assertEqual(place_of(twice + (LIST, None), ()), ())


class Counts(unittest.TestCase):
    def test_kinds(self):
        kinds = tuple((f"k{'abcdefg'[at]}", ((f"m{'abcdefg'[at]}", ()),)) for at in range(7))
        for many in range(7):
            self.assertEqual(place_of(kinds[:many], ()), None if many <= 4 else (), many)

    def test_makers(self):
        makers = tuple((word, ()) for word in "mnopqrs")
        for many in range(7):
            self.assertEqual(place_of((("k", makers[:many]),), ()), None if 1 <= many <= 4 else (), many)

    def test_parts(self):
        for many in range(6):
            kinds = (("k", (("m", ("truth",) * many),)),)
            self.assertEqual(place_of(kinds, ()), None if many <= 3 else (), many)

    def test_functions(self):
        functions = tuple((word, (), "truth", (((), made("yes")),)) for word in "fghijklm")
        for many in range(9):
            self.assertEqual(place_of((), functions[:many]), None if many <= 6 else (), many)

    def test_arguments(self):
        for many in range(6):
            left = tuple(name(word) for word in "abcdef"[:many])
            functions = (("f", ("truth",) * many, "truth", ((left, made("yes")),)),)
            self.assertEqual(place_of((), functions), None if many <= 3 else (), many)

    def test_rules(self):
        for many in range(11):
            functions = (("f", (), "truth", (((), made("yes")),) * many),)
            self.assertEqual(place_of((), functions), None if 1 <= many <= 8 else (), many)

    def test_however_many_patterns_by_the_form(self):
        for many in (0, 2, 3, 4, 5, 41, 3000):
            functions = (("f", ("truth",), "truth", (((A,) * many, made("yes")),)),)
            self.assertEqual(place_of((), functions), ("left", 0, 0, ()), many)
        functions = (("f", ("truth",), "truth", (((A,) * 50 + (SKIP,), made("yes")),)),)
        self.assertEqual(place_of((), functions), ())

    def test_parts_of_sayings(self):
        for many in range(6):
            for head in (made, call):
                place = place_of(KINDS, tri(head("what", *[NOUGHT] * many)))
                self.assertEqual(place, ("right", 1, 0, ()) if many <= 3 else (), many)


def largest():
    """A right program that stands at every bound of point 4 at once."""
    kinds = tuple(
        (f"kind{word}", tuple((f"maker{word}{other}", ("truth",) * at) for at, other in enumerate("abcd")))
        for word in "abcd")
    dues = ("kinda", "kindb", "truth")
    left = (made("makerad", A, B, name("c")), name("d"), name("e"))
    functions = tuple((f"f{word}", dues, "truth", ((left, A),) * 8) for word in "abcdef")
    return kinds, functions


class AllAtOnce(unittest.TestCase):
    def test_at_every_bound(self):
        self.assertIsNone(place_of(*largest()))

    def test_one_beyond_one_of_them(self):
        rows = [
            ((0,), ("kinde", (("makere", ()),))), ((0, 3, 1), ("makere", ())), ((0, 3, 1, 3, 1), "truth"),
            ((1,), ("fg", (), "truth", (((), made("yes")),))), ((1, 5, 1), "truth"),
            ((1, 5, 3), largest()[1][5][3][0]), ((1, 5, 3, 7, 0, 0, 2), A),
        ]
        for path, more in rows:
            row = part_at(largest(), path)
            self.assertEqual(place_of(*put_at(largest(), path, (*row, more))), (), path)


class Sizes(unittest.TestCase):
    def test_nodes_of_a_right_side(self):
        for many in (38, 39, 40):
            self.assertIsNone(place_of(KINDS, tri(of_nodes(many))), many)
        for many in (41, 42, 43):
            self.assertEqual(place_of(KINDS, tri(of_nodes(many))), (), many)

    def test_a_right_side_within_itself(self):
        for height in range(1, 12):
            good = height <= 8
            self.assertEqual(place_of(KINDS, tri(tower(height))), None if good else (), height)
        for wrap in (lambda one: either(NOUGHT, one), lambda one: call("tri", NOUGHT, NOUGHT, one)):
            saying = NOUGHT
            for height in range(2, 12):
                saying = wrap(saying)
                self.assertEqual(place_of(KINDS, tri(saying)), None if height <= 8 else (), height)

    def test_a_same_within_itself(self):
        saying = made("yes")
        for height in range(2, 12):
            saying = same(made("yes"), saying)
            functions = (("f", (), "truth", (((), saying),)),)
            self.assertEqual(place_of((), functions), None if height <= 8 else (), height)

    def test_a_pattern_within_itself(self):
        for height in range(1, 12):
            good = height <= 4
            self.assertEqual(place_of(KINDS, pattern_of(tower(height))), None if good else (), height)
            self.assertEqual(place_of(KINDS, pattern_of(A, B, tower(height))), None if good else (), height)
        self.assertIsNone(place_of(KINDS, pattern_of(made("next", made("next", made("next", A))))))
        self.assertEqual(place_of(KINDS, pattern_of(made("next", made("next", made("next", made("next", A)))))), ())

    def test_the_widest_pattern(self):
        leaf = made("end")
        for step in range(3):
            leaf = made("tri", leaf, leaf, leaf)
        self.assertEqual(len(nodes_of(leaf)), 40)
        kinds = (("tree", (("end", ()), ("tri", ("tree", "tree", "tree")))),)
        functions = (("f", ("tree",), "tree", (((leaf,), leaf),)),)
        self.assertIsNone(place_of(kinds, functions))
        functions = (("f", ("tree", "tree"), "tree", (((leaf, leaf), leaf),)),)
        self.assertIsNone(place_of(kinds, functions))

    def test_a_pattern_may_be_any_saying_by_the_form(self):
        for pattern in (call("f", A), either(A, B), same(A, B), either(either(either(A, A), A), A)):
            self.assertEqual(place_of(KINDS, pattern_of(pattern)), ("left", 0, 0, (0,)))
        five = either(either(either(either(A, A), A), A), A)
        self.assertEqual(place_of(KINDS, pattern_of(five)), ())

    def test_sizes_beyond_all_bounds(self):
        saying = NOUGHT
        for step in range(60):
            saying = either(saying, saying)
        self.assertEqual(place_of(KINDS, tri(saying)), ())
        self.assertEqual(place_of(KINDS, pattern_of(saying)), ())


if __name__ == "__main__":
    unittest.main()

"""Points 2 and 3: nodes and paths, names, what is filled, what fits."""

import unittest

from needfill.forms import SKIP, filled, fitted, is_saying, names_of, nodes_of
from tests.samples import A, B, C, D, NOUGHT, call, either, made, name, part_at, same, tower


class Nodes(unittest.TestCase):
    def test_one_node(self):
        for saying in (A, name("1"), NOUGHT, call("some"), SKIP):
            self.assertEqual(nodes_of(saying), (((), saying),))

    def test_each_ahead_of_its_parts(self):
        inner = call("plus", A, SKIP)
        saying = made("put", inner, either(B, same(NOUGHT, C)), D)
        self.assertEqual(nodes_of(saying), (
            ((), saying),
            ((0,), inner),
            ((0, 0), A),
            ((0, 1), SKIP),
            ((1,), either(B, same(NOUGHT, C))),
            ((1, 0), B),
            ((1, 1), same(NOUGHT, C)),
            ((1, 1, 0), NOUGHT),
            ((1, 1, 1), C),
            ((2,), D),
        ))

    def test_like_nodes_are_each_told(self):
        self.assertEqual(nodes_of(same(A, A)), (((), same(A, A)), ((0,), A), ((1,), A)))

    def test_a_long_way_down(self):
        nodes = nodes_of(tower(40))
        self.assertEqual(len(nodes), 40)
        self.assertEqual(nodes[-1], ((0,) * 39, NOUGHT))

    def test_paths_lead_to_their_nodes_in_rising_order(self):
        saying = call("plus", made("put", A, B, C), either(A, call("some")))
        nodes = nodes_of(saying)
        self.assertEqual([path for path, node in nodes], sorted(path for path, node in nodes))
        for path, node in nodes:
            found = saying
            for at in path:
                found = part_at(found, (2, at) if found[0] in ("made", "call") else (at + 1,))
            self.assertEqual(found, node)


class Names(unittest.TestCase):
    def test_no_names(self):
        for saying in (NOUGHT, SKIP, call("some"), made("a"), call("b", NOUGHT)):
            self.assertEqual(names_of(saying), ())

    def test_each_once_by_its_first_node(self):
        self.assertEqual(names_of(A), ("a",))
        self.assertEqual(names_of(made("put", B, A, B)), ("b", "a"))
        self.assertEqual(names_of(same(call("plus", C, made("next", B)), either(B, A))), ("c", "b", "a"))
        self.assertEqual(names_of(either(made("put", made("next", B), A), C)), ("b", "a", "c"))

    def test_new_names(self):
        self.assertEqual(names_of(made("put", name("12"), name("2"), name("12"))), ("12", "2"))

    def test_makers_and_functions_are_no_names(self):
        self.assertEqual(names_of(call("a", made("b"), C)), ("c",))


class Filled(unittest.TestCase):
    def test_no_fills(self):
        for saying in (A, SKIP, same(A, call("plus", B, made("put", C, either(D, NOUGHT))))):
            self.assertEqual(filled(saying, ()), saying)

    def test_every_node_of_a_name(self):
        saying = same(A, call("plus", made("next", A), either(B, SKIP)))
        self.assertEqual(
            filled(saying, (("a", NOUGHT),)),
            same(NOUGHT, call("plus", made("next", NOUGHT), either(B, SKIP))))

    def test_all_at_once(self):
        self.assertEqual(filled(made("put", A, B), (("a", B), ("b", A))), made("put", B, A))
        self.assertEqual(filled(A, (("a", made("next", A)),)), made("next", A))
        self.assertEqual(filled(A, (("a", B), ("b", C))), B)
        self.assertEqual(filled(A, (("b", C), ("a", B))), B)

    def test_other_names_are_passed_over(self):
        self.assertEqual(filled(A, (("b", NOUGHT),)), A)
        self.assertEqual(filled(NOUGHT, (("nought", A),)), NOUGHT)
        self.assertEqual(filled(call("a", B), (("a", NOUGHT), ("b", C))), call("a", C))

    def test_new_names_and_any_saying(self):
        self.assertEqual(filled(name("1"), (("1", SKIP),)), SKIP)
        told = filled(made("next", A), (("a", either(B, call("some"))),))
        self.assertEqual(told, made("next", either(B, call("some"))))

    def test_each_head_stays(self):
        fills = (("a", NOUGHT), ("b", made("end")))
        for head in (either, same):
            self.assertEqual(filled(head(A, B), fills), head(NOUGHT, made("end")))
        for many in range(4):
            for head in (made, call):
                self.assertEqual(filled(head("f", *[A] * many), fills), head("f", *[NOUGHT] * many))
                self.assertTrue(is_saying(filled(head("f", *[A] * many), fills)))


class Fitted(unittest.TestCase):
    def test_a_name_fits_whatever_there_is(self):
        for thing in (A, B, SKIP, NOUGHT, made("next", SKIP), name("7")):
            self.assertEqual(fitted(A, thing), (("a", thing),))

    def test_made_and_made(self):
        self.assertEqual(fitted(NOUGHT, NOUGHT), ())
        self.assertEqual(fitted(made("next", A), made("next", NOUGHT)), (("a", NOUGHT),))
        self.assertIsNone(fitted(NOUGHT, made("end")))
        self.assertIsNone(fitted(made("next", A), NOUGHT))
        self.assertIsNone(fitted(NOUGHT, made("next", NOUGHT)))
        self.assertIsNone(fitted(made("next", NOUGHT), made("next", made("next", NOUGHT))))

    def test_another_number_of_parts(self):
        self.assertIsNone(fitted(made("put", A), made("put", NOUGHT, NOUGHT)))
        self.assertIsNone(fitted(made("put", A, B), made("put", NOUGHT)))

    def test_a_name_or_a_skip_fits_no_made(self):
        for thing in (A, name("1"), SKIP):
            self.assertIsNone(fitted(NOUGHT, thing))
            self.assertIsNone(fitted(made("next", A), thing))
            self.assertIsNone(fitted(made("put", A, NOUGHT), made("put", NOUGHT, thing)))
            self.assertEqual(fitted(made("put", A, NOUGHT), made("put", thing, NOUGHT)), (("a", thing),))
        self.assertIsNone(fitted(made("nought"), name("nought")))

    def test_the_order_of_the_patterns_names(self):
        pattern = made("put", made("put", D, made("next", A)), NOUGHT, made("put", C, B))
        thing = made("put", made("put", tower(2), made("next", SKIP)), NOUGHT, made("put", A, NOUGHT))
        fills = (("d", tower(2)), ("a", SKIP), ("c", A), ("b", NOUGHT))
        self.assertEqual(fitted(pattern, thing), fills)
        self.assertEqual(tuple(word for word, given in fills), names_of(pattern))
        self.assertEqual(filled(pattern, fills), thing)

    def test_the_last_part_may_not_fit(self):
        pattern = made("put", A, B, NOUGHT)
        self.assertIsNone(fitted(pattern, made("put", A, B, made("end"))))
        self.assertEqual(fitted(pattern, made("put", A, A, NOUGHT)), (("a", A), ("b", A)))


if __name__ == "__main__":
    unittest.main()

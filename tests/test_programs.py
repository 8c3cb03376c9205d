"""Points 4 and 25: what a program bears and tells."""

import unittest

from needfill.programs import Program
from tests.samples import A, ALIKE, B, C, FUNCTIONS, KINDS, LIST, NOUGHT, NUM, PLUS, call, either, made, nothings, same

TEXT = """kind num = nought | next num
kind list = end | put num list
def plus num num = num
plus nought b = b
plus (next a) b = next (plus a b)
def alike list list = truth
alike a b = same a b
def some = num
some = either nought (next some)
"""


class Bears(unittest.TestCase):
    def test_as_handed_in(self):
        program = Program(KINDS, FUNCTIONS)
        self.assertEqual(program.kinds, KINDS)
        self.assertEqual(program.functions, FUNCTIONS)
        self.assertIsInstance(program.kinds, tuple)
        self.assertIsInstance(program.functions, tuple)

    def test_the_empty_program(self):
        program = Program((), ())
        self.assertEqual((program.kinds, program.functions), ((), ()))
        self.assertEqual(len(program), 0)
        self.assertEqual(str(program), "")
        self.assertEqual(program.makers("truth"), (("yes", ()), ("no", ())))
        self.assertTrue(program == Program((), ()))

    def test_makers(self):
        program = Program(KINDS, FUNCTIONS)
        self.assertEqual(program.makers("num"), (("nought", ()), ("next", ("num",))))
        self.assertEqual(program.makers("list"), (("end", ()), ("put", ("num", "list"))))
        self.assertEqual(program.makers("truth"), (("yes", ()), ("no", ())))
        self.assertIn("makers", vars(Program))

    def test_how_many_rules(self):
        self.assertEqual(len(Program(KINDS, FUNCTIONS)), 4)
        self.assertEqual(len(Program(KINDS, (PLUS,))), 2)
        self.assertEqual(len(Program(KINDS, ())), 0)
        eight = ("f", ("num",), "num", (((A,), A),) * 8)
        self.assertEqual(len(Program(KINDS, (eight, PLUS))), 10)

    def test_kinds_alone_and_functions_alone(self):
        self.assertEqual(str(Program((NUM,), ())), "kind num = nought | next num\n")
        turn = ("turn", ("truth",), "truth", (((made("yes"),), made("no")), ((made("no"),), made("yes"))))
        program = Program((), (turn,))
        self.assertEqual(str(program), "def turn truth = truth\nturn yes = no\nturn no = yes\n")
        self.assertEqual(len(program), 2)


class Alike(unittest.TestCase):
    def are_unlike(self, one, other):
        self.assertIs(one == other, False)
        self.assertIs(other == one, False)
        self.assertIs(one != other, True)
        self.assertIs(other != one, True)

    def test_made_anew_of_like_tuples(self):
        one = Program(KINDS, FUNCTIONS)
        num = ("".join(["n", "um"]), tuple([("nought", ()), ("next", tuple(["num"]))]))
        other = Program(tuple([num, LIST]), tuple(list(FUNCTIONS)))
        self.assertIs(one == other, True)
        self.assertIs(other == one, True)
        self.assertIs(one != other, False)
        self.assertIs(one == one, True)

    def test_other_programs(self):
        one = Program(KINDS, FUNCTIONS)
        self.are_unlike(one, Program((), ()))
        self.are_unlike(one, Program(KINDS, ()))
        self.are_unlike(one, Program(KINDS, FUNCTIONS[::-1]))
        self.are_unlike(one, Program(KINDS[::-1], FUNCTIONS))
        self.are_unlike(one, Program(KINDS + (("box", (("wrap", ("num",)),)),), FUNCTIONS))
        self.are_unlike(one, Program(KINDS, FUNCTIONS[:-1]))

    def test_things_that_are_no_program(self):
        for one in (Program(KINDS, FUNCTIONS), Program((), ())):
            for other in nothings() + [(), (one,), [one], one.kinds, (one.kinds, one.functions), str(one), len(one)]:
                self.are_unlike(one, other)


class Texts(unittest.TestCase):
    def test_a_row_for_each(self):
        self.assertEqual(str(Program(KINDS, FUNCTIONS)), TEXT)

    def test_kinds_and_makers_in_order(self):
        kinds = (
            ("one", (("alone", ()),)),
            ("many", (("p", ("one", "many", "truth")), ("q", ("truth", "truth")), ("r", ("one",)), ("s", ()))),
        )
        self.assertEqual(
            str(Program(kinds, ())),
            "kind one = alone\nkind many = p one many truth | q truth truth | r one | s\n")

    def test_brackets_where_there_are_parts(self):
        left = (made("put", NOUGHT, made("put", A, B)), made("end"), C)
        right = either(same(made("put", A, B), C), either(same(made("end"), call("sure")), made("yes")))
        functions = (
            ("f", ("list", "list", "list"), "truth", ((left, right),)),
            ("sure", (), "list", (((), call("sure")),)),
        )
        self.assertEqual(
            str(Program(KINDS, functions)).split("\n")[2:],
            ["def f list list list = truth",
             "f (put nought (put a b)) end c = either (same (put a b) c) (either (same end sure) yes)",
             "def sure = list", "sure = sure", ""])

    def test_calls_within_calls(self):
        deep = call("plus", call("plus", A, NOUGHT), made("next", call("plus", NOUGHT, B)))
        functions = (PLUS, ("f", ("num", "num"), "num", (((A, B), deep),)), ALIKE)
        self.assertIn("\nf a b = plus (plus a nought) (next (plus nought b))\n", str(Program(KINDS, functions)))


if __name__ == "__main__":
    unittest.main()

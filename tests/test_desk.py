"""Point 26: a desk, which does the rows of a text."""

import copy
import unittest
import unittest.mock

from needfill.answers import answers
from needfill.desk import Desk
from needfill.errors import NoRow
from needfill.programs import Program
from needfill.texts import program_text, read_program, read_saying, saying_text
from tests.books import ASKINGS, CLASHING, NUMBERS, TREES, TRUTHS
from tests.dice import Thrown

PLUS = "name x num\nname y num\nask plus x y\n"


def answer_row(answer):
    """The row of an answer by the words of point 26."""
    fills = [word + " = " + saying_text(thing) for word, thing in answer[0]]
    return "; ".join(fills) + ": " + saying_text(answer[1])


def name_rows(names):
    return "".join(f"name {word} {kind}\n" for word, kind in names)


class Case(unittest.TestCase):
    def setUp(self):
        self.desk = Desk(NUMBERS)

    def told(self, text, *rows):
        """A text with these rows told, one for each; the log and the desk behind it."""
        before = self.desk.log()
        self.assertEqual(self.desk.run(text), rows)
        self.assertEqual(self.desk.log(), (*before, ("begin", len(rows)), ("end", len(rows))))
        self.assertIs(self.desk.is_free(), True)

    def stopped(self, text, row, many=None):
        """A text that is refused at that row."""
        before = self.desk.log()
        with self.assertRaises(NoRow) as caught:
            self.desk.run(text)
        self.assertEqual(caught.exception.row, row)
        many = row + 1 if many is None else many
        self.assertEqual(self.desk.log(), (*before, ("begin", many), ("end", row)))
        self.assertIs(self.desk.is_free(), True)


class Runs(Case):
    def test_the_methods_are_the_class_s_own(self):
        for method in ("__init__", "run", "log", "is_free"):
            self.assertIn(method, vars(Desk))

    def test_at_first(self):
        self.assertEqual(self.desk.log(), ())
        self.assertIs(self.desk.is_free(), True)

    def test_no_rows(self):
        self.told("")
        self.assertEqual(self.desk.log(), (("begin", 0), ("end", 0)))
        self.told("")

    def test_what_is_told_is_a_tuple_of_texts(self):
        told = self.desk.run(PLUS + "next\n")
        self.assertEqual(told, ("kept", "kept", "asked", "x = nought; y = 1: 1"))
        self.assertIsInstance(told, tuple)
        self.assertIsInstance(self.desk.log(), tuple)

    def test_a_text_in_one_piece_or_in_several(self):
        text = PLUS + "next\nnext\nturns 5\nname z list\nnext\nask same x y\nnext\nnext\nturns 3\nnext\n"
        whole = self.desk.run(text)
        for pieces in ([row + "\n" for row in text.split("\n")[:-1]], [PLUS, text[len(PLUS):]], ["", text, ""]):
            desk = Desk(NUMBERS)
            self.assertEqual(sum([desk.run(piece) for piece in pieces], ()), whole)
            due = []
            for piece in pieces:
                many = piece.count("\n")
                due += [("begin", many), ("end", many)]
            self.assertEqual(desk.log(), tuple(due))

    def test_the_log_that_was_told_stays(self):
        self.told("next\n", "nothing asked")
        log = self.desk.log()
        kept = copy.deepcopy(log)
        self.told(PLUS, "kept", "kept", "asked")
        self.stopped("bad\n", 0)
        self.assertEqual(log, kept)
        self.assertEqual(self.desk.log(), (
            ("begin", 1), ("end", 1), ("begin", 3), ("end", 3), ("begin", 1), ("end", 0)))

    def test_it_is_not_free_while_it_does_a_text(self):
        seen = []

        def look(program, text):
            seen.append((self.desk.is_free(), self.desk.log()))
            return read_saying(program, text)

        with unittest.mock.patch("needfill.desk.read_saying", look):
            self.told("next\nask nought\n", "nothing asked", "asked")
        self.assertEqual(seen, [(False, (("begin", 2),))])

    def test_however_a_text_ends(self):
        with unittest.mock.patch("needfill.desk.read_saying", side_effect=MemoryError):
            with self.assertRaises(MemoryError):
                self.desk.run("next\nask nought\nnext\n")
        self.assertEqual(self.desk.log(), (("begin", 3), ("end", 1)))
        self.assertIs(self.desk.is_free(), True)
        self.told("ask nought\nnext\n", "asked", ": nought")

    def test_two_desks_by_themselves(self):
        other = Desk(NUMBERS)
        self.told(PLUS, "kept", "kept", "asked")
        self.assertEqual(other.run("next\nask x\n"), ("nothing asked", "no saying"))

    def test_the_program_is_not_changed(self):
        before = copy.deepcopy((NUMBERS.kinds, NUMBERS.functions))
        self.desk.run(PLUS + "next\nturns 6\nnext\n")
        self.assertEqual((NUMBERS.kinds, NUMBERS.functions), before)


class OtherRows(Case):
    def test_rows_that_are_none(self):
        for row in (
                "", " ", "next ", " next", "nexts", "Next", "next 1", "nextx", "name", "name ", "name x", "name x ", "name  x",
                "name x num ", "name  x num", "name x  num", " name x num", "name x num num", "name X num", "name x Num",
                "name x1 num", "name 1 num", "name x 1", "name x-num", "names x num", "name x\tnum", "name x num\r",
                "name \u00e4 num", "name x n\u00fcm", "ask", "asks x", "Ask x", " ask x", "ask\tx", "turns", "turns 5 ",
                "turns  5", "turns 5 6", "turns  ", "Turns 5", "turn 5", " turns 5", "turns\t5", "kept", "held x", "end",
                "begin", "#", "kind num = nought", "def f = num", "plus x y", "nothing asked"):
            self.stopped(row + "\n", 0)
            self.stopped("next\n" + row + "\n", 1)
            self.stopped("next\nnext\n" + row + "\nnext\n", 2, 4)

    def test_what_stands_behind_the_last_line_feed(self):
        for row in ("next", "name x num", "ask x", "turns 5", "bad", " "):
            self.stopped(row, 0)
            self.stopped("next\nnext\n" + row, 2)
        self.told("ask x\n", "no saying")

    def test_what_was_done_ahead_of_it_stays(self):
        self.stopped("name x num\nname y num\nask plus x y\nnext\nturns 5\nbad\nname x list\nnext\n", 5, 8)
        self.told("next\n", "x = next nought; y = 1: next 1")
        self.told("turns 4\n", "no turns")
        self.told("ask plus y x\nnext\n", "asked", "x = 1; y = nought: 1")
        self.stopped("next\nnext", 1)
        self.told("next\n", "x = 1; y = next (next nought): next (next 1)")

    def test_nothing_behind_it_is_done(self):
        self.stopped("bad\nname x num\n", 0, 2)
        self.told("ask x\n", "no saying")

    def test_the_first_of_several(self):
        self.stopped("next\nbad\nworse\n", 1, 3)
        self.stopped("next\nbad\nworse", 1, 3)


class Names(Case):
    def test_kept(self):
        self.told("name x num\nname y list\nname z truth\nname w num\nask nought\nnext\n",
                  "kept", "kept", "kept", "kept", "asked", "x = 1; y = 2; z = 3; w = 4: nought")

    def test_in_the_order_kept(self):
        self.told("name y num\nname x num\nask plus x y\nnext\n", "kept", "kept", "asked", "y = 1; x = nought: 1")

    def test_told_anew_at_its_place(self):
        self.told("name x num\nname y num\nname x list\nask first x\nnext\n",
                  "kept", "kept", "kept", "asked", "x = put 1 2; y = 3: 1")
        self.told("name x list\nname y truth\nask put nought x\nnext\n", "kept", "kept", "asked", "x = 1; y = 2: put nought 1")

    def test_a_fifth_one(self):
        four = "name x num\nname y num\nname z num\nname w num\n"
        self.told(four, *["kept"] * 4)
        self.told("name v num\nname u truth\n", "no name", "no name")
        self.told("name z list\nname x num\n", "kept", "kept")
        self.told("ask z\nnext\n", "asked", "x = 1; y = 2; z = 3; w = 4: 3")
        self.told("ask v\n", "no saying")

    def test_no_name(self):
        for row in ("kind num", "def num", "either num", "same num", "truth num", "truth truth", "abcdefghi num",
                    "x" * 300 + " num", "nought num", "next num", "end num", "yes num", "no num", "plus num", "some num",
                    "x none", "x nums", "x x", "x kind", "x nought", "x plus", "x " + "n" * 300, "x def", "plus none"):
            self.told("name " + row + "\n", "no name")
        self.told("name abcdefgh num\nask abcdefgh\nnext\n", "kept", "asked", "abcdefgh = 1: 1")
        self.told("name num num\nname x truth\n", "kept", "kept")

    def test_one_that_is_refused_changes_nothing(self):
        self.told("name x num\nname x none\nask next x\nnext\n", "kept", "no name", "asked", "x = 1: next 1")

    def test_names_kept_while_something_is_asked_count_from_the_next_asking_on(self):
        self.told(PLUS + "next\n", "kept", "kept", "asked", "x = nought; y = 1: 1")
        self.told("name z num\nname x list\nnext\n", "kept", "kept", "x = next nought; y = 1: next 1")
        self.told("turns 8\nnext\n", "kept", "x = next (next nought); y = 1: next (next 1)")
        self.told("ask plus x y\n", "no saying")
        self.told("next\n", "x = next (next (next nought)); y = 1: next (next (next 1))")
        self.told("ask plus z y\nnext\n", "asked", "x = 1; y = 2; z = nought: 2")


class Asks(Case):
    def test_asked(self):
        self.told("ask nought\nnext\nnext\n", "asked", ": nought", "no more")
        self.told("ask plus (next nought) nought\nnext\n", "asked", ": next nought")
        self.told("ask next (next (next nought))\nnext\n", "asked", ": next (next (next nought))")

    def test_no_saying(self):
        for saying in (
                "", " ", " nought", "nought ", "x", "plus nought x", "plus nought", "(nought)", "next  nought", "next end",
                "same nought end", "1", "next 1", "kind", "bad!", "next (next nought", "name x num", "\t", "nought\r", "=",
                saying_text_of_height(9), "either nought end", "plus nought nought nought nought"):
            self.told("ask " + saying + "\n", "no saying")
        self.told("next\n", "nothing asked")
        self.told("ask " + saying_text_of_height(8) + "\n", "asked")

    def test_no_table(self):
        self.desk = Desk(CLASHING)
        self.told("ask nought\n", "no table")
        self.told("name x num\nask plus x x\nask plus x\nask bad bad\n", "kept", "no table", "no saying", "no saying")
        self.told("next\n", "nothing asked")

    def test_too_wide(self):
        self.desk = Desk(TREES, turns=4)
        self.told("name x tree\nname y tree\nask same x y\nnext\n", "kept", "kept", "too wide", "nothing asked")

    def test_four_hundred_ends_and_no_more(self):
        kinds = (("pair", (("two", ("truth", "truth", "pair")), ("stop", ()))),)
        self.desk = Desk(read_program(
            program_text(Program(kinds, ()))
            + "def a = truth\na = either (either yes no) (either yes (either no yes))\n"
            + "def b = truth\nb = either (either yes no) (either yes no)\n"))
        saying = "two a b (two a b stop)"
        self.told("ask " + saying + "\n", "asked")
        self.told("ask either stop (" + saying + ")\nnext\n", "too wide", ": two yes yes (two yes yes stop)")

    def test_one_that_comes_to_nothing_leaves_what_is_asked(self):
        self.told(PLUS + "next\n", "kept", "kept", "asked", "x = nought; y = 1: 1")
        self.told("ask bad bad\nask plus x\nask \nnext\n", "no saying", "no saying", "no saying",
                  "x = next nought; y = 1: next 1")
        self.desk = Desk(TREES, turns=2)
        self.told("name x tree\nname y tree\nask mirror x\nnext\n", "kept", "kept", "asked", "x = leaf; y = 1: leaf")
        self.told("turns 4\nask same x y\nnext\n", "kept", "too wide", "x = fork leaf 1 leaf; y = 2: fork leaf 1 leaf")

    def test_asked_anew_it_begins_anew(self):
        self.told(PLUS + "next\nask plus x y\nnext\n",
                  "kept", "kept", "asked", "x = nought; y = 1: 1", "asked", "x = nought; y = 1: 1")


def saying_text_of_height(height):
    text = "nought"
    for step in range(height - 1):
        text = "next (" + text + ")" if step else "next " + text
    return text


class Nexts(Case):
    def test_nothing_asked(self):
        self.told("next\nnext\n", "nothing asked", "nothing asked")
        self.told("name x num\nturns 5\nnext\n", "kept", "kept", "nothing asked")

    def test_no_more(self):
        self.told("ask first end\nnext\nnext\n", "asked", "no more", "no more")
        self.told("name x truth\nask same x yes\nnext\nnext\nnext\nnext\n",
                  "kept", "asked", "x = yes: yes", "x = no: no", "no more", "no more")

    def test_cut(self):
        self.told("ask loop nought\nnext\nnext\n", "asked", "cut", "cut")
        self.told("turns 8\nnext\n", "kept", "cut")

    def test_answers_as_they_are_told_elsewhere(self):
        askings = list(ASKINGS)
        for seed in range(40):
            thrown = Thrown(seed)
            askings.append((thrown.program, *thrown.asking()))
        for program, names, saying in askings:
            due, whole = answers(program, names, saying)
            self.desk = Desk(program)
            text = name_rows(names) + "ask " + saying_text(saying) + "\n" + "next\n" * (len(due) + 2)
            last = "no more" if whole else "cut"
            self.told(text, *["kept"] * len(names), "asked", *[answer_row(answer) for answer in due], last, last)

    def test_an_asker_that_has_told_nothing_is_there(self):
        self.told("ask loop nought\nturns 8\nnext\n", "asked", "kept", "cut")


class Turns(Case):
    def test_kept(self):
        self.told("turns 4\nturns 5\nturns 5\nturns 8\nturns 8\n", *["kept"] * 5)

    def test_no_turns(self):
        for row in ("", "3", "0", "9", "10", "05", "00", "08", "+5", "-5", "-1", "5.", "5.0", "five", "x", "x5", "5x",
                    "\u0665", "\u00b2", "5\t", "\t5", "5\r", "(5)", "1" * 4500, "444", "0x5", "1e1", "5_0", "45678"):
            self.told("turns " + row + "\n", "no turns")
        self.told("turns 4\n", "kept")

    def test_fewer_than_now(self):
        self.told("turns 6\nturns 5\nturns 4\nturns 6\nturns 7\nturns 6\n", "kept", "no turns", "no turns", "kept", "kept",
                  "no turns")

    def test_from_the_turns_it_is_made_with(self):
        self.desk = Desk(NUMBERS, turns=0)
        self.told("name x num\nask plus x nought\nnext\n", "kept", "asked", "cut")
        self.told("turns 0\nnext\nturns 00\n", "kept", "cut", "no turns")
        self.told("turns 1\nnext\nnext\n", "kept", "x = nought: nought", "cut")
        self.told("turns 0\n", "no turns")
        self.desk = Desk(NUMBERS, turns=8)
        self.told("turns 7\nturns 8\nturns 9\n", "no turns", "kept", "no turns")

    def test_the_turns_that_are_left_out(self):
        for text in (PLUS + "next\n" * 6, "turns 3\nturns 4\n"):
            self.assertEqual(Desk(NUMBERS).run(text), Desk(NUMBERS, turns=4).run(text))

    def test_what_is_asked_is_widened(self):
        self.told(PLUS + "next\n" * 5, "kept", "kept", "asked", *self.rows(4), "cut")
        self.told("turns 6\nnext\nnext\nnext\n", "kept", *self.rows(6)[4:], "cut")
        self.told("ask plus x y\n" + "next\n" * 7, "asked", *self.rows(6), "cut")

    def rows(self, turns):
        found = []
        for many in range(turns):
            tower = saying_text_of_height(many + 1)
            value = tower.replace("nought", "1")
            found.append(f"x = {tower}; y = 1: {value}")
        return found

    def test_turns_ahead_of_the_asking(self):
        self.told("turns 6\n" + PLUS + "next\n" * 7, "kept", "kept", "kept", "asked", *self.rows(6), "cut")

    def test_too_wide_the_turns_stay(self):
        self.desk = Desk(TREES, turns=2)
        self.told("name x tree\nname y tree\nask same x y\nnext\n", "kept", "kept", "asked", "x = 1; y = 1: yes")
        self.told("turns 8\nturns 5\nnext\n", "too wide", "too wide", "x = leaf; y = fork 1 2 3: no")
        self.told("turns 1\nturns 2\n", "no turns", "kept")
        self.told("ask same x y\n", "asked")
        # With something else asked it can be done.
        self.told("ask mirror leaf\nturns 8\nask same x y\n", "asked", "kept", "too wide")

    def test_without_an_asking_whatever_would_be_too_wide_later(self):
        self.desk = Desk(TRUTHS)
        self.told("turns 8\n", "kept")


class Whole(unittest.TestCase):
    """From a program's text to its answers by a desk and by answers alike."""

    def test_from_texts_to_answers(self):
        for program, names, saying in ASKINGS:
            read = read_program(program_text(program))
            desk = Desk(read, turns=3)
            rows = desk.run(name_rows(names) + "ask " + saying_text(saying) + "\n" + "next\n" * 40)
            due, whole = answers(read, names, saying, turns=3)
            told = [row for row in rows[len(names) + 1:] if row not in ("cut", "no more")]
            self.assertEqual(told, [answer_row(answer) for answer in due][:40])

    def test_over_truth_alone(self):
        text = "def turn truth = truth\nturn yes = no\nturn no = yes\n"
        desk = Desk(read_program(text))
        self.assertEqual(desk.run("name x truth\nask turn (turn x)\nnext\nnext\nnext\n"), (
            "kept", "asked", "x = yes: yes", "x = no: no", "no more"))
        empty = Desk(read_program(""))
        self.assertEqual(empty.run("name x truth\nname y num\nask same x x\nnext\nask yes\nnext\nnext\n"), (
            "kept", "no name", "asked", "x = 1: yes", "asked", "x = 1: yes", "no more"))


if __name__ == "__main__":
    unittest.main()

"""Point 25: texts of programs and sayings, written and read."""

import copy
import unittest

from needfill.errors import BadProgram, NoText
from needfill.programs import Program
from needfill.texts import program_text, read_program, read_saying, saying_text
from tests.books import ASKINGS, CLASHING, END, LISTS, NO, NUMBERS, TREES, TRUTHS, X, Y, YES, new
from tests.dice import Dice, Thrown
from tests.letters import read_by_letters, saying_by_letters
from tests.samples import A, B, C, NOUGHT, NUM, PLUS, call, either, made, name, same, tower

KINDS = "kind num = nought | next num\nkind list = end | put num list\n"
PLUS_TEXT = "def plus num num = num\nplus nought b = b\nplus (next a) b = next (plus a b)\n"
TEXT = KINDS + PLUS_TEXT + "def some = num\nsome = either nought (next some)\n"


def row_of(text):
    """The row that NoText bears, the place that BadProgram bears, or the program."""
    try:
        return read_program(text)
    except NoText as error:
        return error.row
    except BadProgram as error:
        return error.place


def program_or_place(kinds, functions):
    try:
        return Program(kinds, functions)
    except BadProgram as error:
        return error.place


def programs():
    yield from (NUMBERS, LISTS, TREES, TRUTHS, CLASHING, Program((), ()), Program((NUM,), ()), Program((NUM,), (PLUS,)))
    for seed in range(60):
        yield Thrown(seed).program


class Written(unittest.TestCase):
    def test_programs(self):
        self.assertEqual(program_text(Program((), ())), "")
        self.assertEqual(program_text(Program((NUM,), (PLUS,))), "kind num = nought | next num\n" + PLUS_TEXT)
        for program in programs():
            self.assertEqual(program_text(program), str(program))

    def test_sayings(self):
        for saying, text in (
                (X, "x"), (NOUGHT, "nought"), (tower(2), "next nought"), (tower(4), "next (next (next nought))"),
                (call("some"), "some"), (call("plus", X, call("some")), "plus x some"),
                (call("plus", call("plus", X, Y), tower(2)), "plus (plus x y) (next nought)"),
                (either(X, tower(2)), "either x (next nought)"), (same(either(X, Y), NOUGHT), "same (either x y) nought"),
                (same(same(X, X), YES), "same (same x x) yes"), (made("fork", X, Y, call("f", X)), "fork x y (f x)"),
                (new(1), "1"), (made("next", new(12)), "next 12"), (made("next", made("next", new(999))), "next (next 999)"),
                (either(either(X, Y), either(Y, X)), "either (either x y) (either y x)")):
            self.assertEqual(saying_text(saying), text)

    def test_deep_things(self):
        text = saying_text(tower(120))
        self.assertEqual(text.count("next"), 119)
        self.assertEqual(text.count("("), 118)


class ThereAndBack(unittest.TestCase):
    def test_programs(self):
        for program in programs():
            before = copy.deepcopy((program.kinds, program.functions))
            text = program_text(program)
            back = read_program(text)
            self.assertIsInstance(back, Program)
            self.assertEqual((back.kinds, back.functions), before)
            self.assertTrue(back == program)
            self.assertEqual(program_text(back), text)
            self.assertEqual(read_by_letters(text), before)

    def test_sayings(self):
        for program, names, saying in ASKINGS:
            text = saying_text(saying)
            self.assertEqual(read_saying(program, text), saying)
            self.assertEqual(saying_by_letters(program, text), saying)
        for seed in range(100):
            thrown = Thrown(seed)
            names, saying = thrown.asking()
            self.assertEqual(read_saying(thrown.program, saying_text(saying)), saying)

    def test_the_empty_program(self):
        program = read_program("")
        self.assertEqual((program.kinds, program.functions), ((), ()))
        self.assertEqual(read_saying(program, "same x yes"), same(X, YES))
        self.assertEqual(read_saying(program, "plus"), name("plus"))

    def test_brackets_within_brackets(self):
        deep = X
        for step in range(40):
            deep = made("next", deep)
        text = saying_text(deep)
        self.assertEqual(text.count("("), 39)
        self.assertEqual(read_saying(NUMBERS, text), deep)
        self.assertEqual(row_of(KINDS + "def some = num\nsome = " + saying_text(tower(41)) + "\n"), ())


class Rows(unittest.TestCase):
    def wrong(self, text, row):
        for step in range(2):
            with self.assertRaises(NoText) as caught:
                read_program(text)
            self.assertEqual(caught.exception.row, row)
        self.assertEqual(read_by_letters(text), row)

    def test_each_row_broken_by_itself(self):
        rows = TEXT.split("\n")[:-1]
        self.assertIsInstance(row_of(TEXT), Program)
        for at, row in enumerate(rows):
            for other in (
                    "", " ", row + " ", " " + row, row.replace(" ", "  ", 1), row[::-1].replace(" ", "  ", 1)[::-1],
                    row.replace(" = ", " "), row.replace(" = ", " == "), row.replace(" = ", "="), row + " =",
                    row.replace(" = ", " = = "), row.upper(), row + "\t", row.replace(" ", "\t", 1), row + "\r",
                    row.replace(" = ", " = truth kind "), row + " (", row + ")", "(" + row + ")", row + " 1", "1 " + row,
                    row[:row.index("=")], row[:row.index("=") + 1], row[:row.index("=") + 2], row[row.index("="):],
                    row.replace(" = ", " =\u00a0"), "\u00e4" + row, row + " abcdefghi", row + " |", row + ";", row + "."):
                self.wrong("".join(text + "\n" for text in (*rows[:at], other, *rows[at + 1:])), at)

    def test_kinds_rows(self):
        for row in (
                "kind num =", "kind num = ", "kind num", "kind", "kind = nought", "kind num nought", "kind num = | nought",
                "kind num = nought |", "kind num = nought | ", "kind num = nought | | next num", "kind num = nought|next",
                "kind num = nought || next num", "kind num = next (num)", "kind num = (next num)", "kind num num = nought",
                "kind truth = nought", "kind either = nought", "kind num = truth", "kind num = same", "kind num = next kind",
                "kind num = next def", "kind numberses = nought", "kind num = noughtful", "kind num = next numberses",
                "kind num = next num num num num", "kind Num = nought", "kind n1 = nought", "kind num = n1", "kind 1 = one",
                "kinds num = nought", "Kind num = nought", "kind num = nought = nought", "kind num = a | b c d e f"):
            self.wrong(row + "\n", 0)
            self.wrong("kind a = b\n" + row + "\n", 1)
        for row in ("kind num = next num num num", "kind num = yes", "kind a = a", "kind num = next truth", "kind a = b c"):
            self.assertNotIsInstance(read_by_letters(row + "\n"), int)
            self.assertNotIsInstance(row_of(row + "\n"), int)

    def test_defs_rows(self):
        for row in (
                "def plus num num =", "def plus num num = ", "def plus", "def", "def = num", "def plus num num", "def  = num",
                "def plus num num num num = num", "def plus (num) = num", "def plus num = num num", "def plus num | num = num",
                "def kind num = num", "def truth = num", "def plus kind = num", "def plus = def", "def plus num = numberses",
                "def plus numberses = num", "def plusplusp = num", "def Plus = num", "def plus = 1", "def plus 1 = num",
                "def plus = num = num", "def same num num = truth", "defs plus = num"):
            self.wrong(KINDS + row + "\n", 2)
        text = KINDS + "def f num num num = truth\nf a b c = yes\n"
        self.assertIsInstance(row_of(text), Program)

    def test_rules_rows(self):
        head = KINDS + "def plus num num = num\n"
        for row in (
                "plus nought b =", "plus nought b", "plus", "= b", " = b", "minus nought b = b", "pluss nought b = b",
                "plus nought b = b c", "plus nought b = (b)", "plus nought b = (next b)", "plus (nought) b = b",
                "plus nought (b) = b", "plus next (a) b = b", "plus (next a b = b", "plus next a) b = b",
                "plus (next a)) b = b", "plus ((next a)) b = b", "plus (next a)b = b", "plus(next a) b = b",
                "plus ( next a) b = b", "plus (next a ) b = b", "plus () b = b", "plus (a b) c = b", "(plus nought b) = b",
                "plus a b c d = b", "plus a b = next a b a b", "plus a b = either a", "plus a b = either a b a",
                "plus a b = either", "plus a b = same", "plus a b = same a b a", "plus a b = (either a b)",
                "plus a b = next (either a)", "plus a b = next (plus a", "plus a b = next plus a b)", "plus a b = next )(",
                "plus a b = kind", "plus a b = truth", "plus a b = next def", "plus kind b = b", "plus abcdefghi b = b",
                "plus a b = noughtful", "plus a b = 1", "plus 1 b = b", "plus a b = next 1", "plus a b = a | b",
                "plus a b = Nought", "plus a b = a = b", "plus a b = next\ta", "nought = a", "next a = a", "a = a"):
            self.wrong(head + row + "\n", 3)
            self.wrong(head + "plus a b = a\n" + row + "\n", 4)

    def test_rules_ahead_of_a_def_or_of_another_one(self):
        self.wrong("plus nought b = b\n", 0)
        self.wrong(KINDS + "plus nought b = b\n" + PLUS_TEXT, 2)
        self.wrong(KINDS + PLUS_TEXT + "def some = num\nplus a b = b\n", 6)
        self.wrong(KINDS + PLUS_TEXT + "some = nought\ndef some = num\n", 5)

    def test_a_kind_behind_a_function(self):
        self.wrong(PLUS_TEXT + KINDS, 3)
        self.wrong("def f = truth\nf = yes\nkind num = nought\n", 2)
        self.wrong("def f = truth\nkind num = nought\nf = yes\n", 1)
        self.wrong("kind a = b\ndef f = truth\nkind num = nought\n", 2)

    def test_behind_the_last_line_feed(self):
        self.wrong("kind num = nought", 0)
        self.wrong(" ", 0)
        self.wrong(TEXT + "some = nought", 7)
        self.wrong(TEXT + "def f = num", 7)
        self.wrong(TEXT[:-1], 6)
        self.wrong(TEXT + " ", 7)
        self.wrong("bad\nkind num = nought", 0)

    def test_empty_rows(self):
        self.wrong("\n", 0)
        self.wrong("\n\n", 0)
        self.wrong(TEXT + "\n", 7)
        self.wrong("\n" + TEXT, 0)

    def test_the_first_wrong_row(self):
        self.wrong(KINDS + "bad\nworse\n", 2)
        self.wrong(KINDS + PLUS_TEXT + "bad\n" + KINDS, 5)
        # Were it read at all it would be no right program: the text is looked at first.
        self.wrong("kind num = nought\nkind num = nought\nbad\n", 2)

    def test_a_makers_word_by_a_row_that_stands_below(self):
        # Were nought a name in the first rule, its right side would be a name.
        text = "def f num = num\nf a = next a\nkind num = nought | next num\n"
        self.wrong(text, 2)
        text = "def f = truth\nf = next a\n"
        self.wrong(text, 1)
        self.wrong(text + "kind num = next num\n", 2)
        self.wrong(text + "kind num = next num", 2)
        self.wrong(text + "def next num = num", 2)
        self.wrong(text + "kind num = next num ", 1)
        self.wrong(text + "def next num =", 1)

    def test_a_makers_word_ahead_of_a_functions(self):
        text = "kind num = nought | next num\ndef next num = num\nnext a = next a\n"
        self.assertEqual(row_of(text), ("def", 0))
        kinds, functions = read_by_letters(text)
        self.assertEqual(functions[0][3][0][1], made("next", A))
        self.assertEqual(row_of("def yes = truth\nyes = yes\n"), ("def", 0))
        text = "kind num = nought\ndef f num = num\nf a = g\ndef g = num\ng = nought\n"
        self.assertEqual(row_of(text).functions[0][3], (((A,), call("g")),))

    def test_words_that_are_functions_by_a_later_def(self):
        text = "def f = truth\nf = g yes\ndef g truth = truth\ng a = f\n"
        program = row_of(text)
        self.assertEqual(program.functions, (
            ("f", (), "truth", (((), call("g", YES)),)), ("g", ("truth",), "truth", (((A,), call("f")),))))


class Behind(unittest.TestCase):
    def test_what_is_written_right_but_is_not_right(self):
        for text, place in (
                ("kind num = nought\nkind num = one\n", ("kind", 1)),
                ("kind num = nought | nought\n", ("maker", 0, 1)), ("kind num = yes\n", ("maker", 0, 0)),
                ("kind num = next nom | nought\n", ("maker", 0, 0)), ("kind num = next num\n", ("empty", 0)),
                (KINDS + "def nought = num\nnought = nought\n", ("def", 0)),
                (KINDS + "def f = nom\nf = nought\n", ("def", 0)),
                (KINDS + "def plus num num = num\nplus a = a\n", ("left", 0, 0, ())),
                (KINDS + "def plus num num = num\nplus next a b = a\n", ("left", 0, 0, ())),
                (KINDS + "def plus num num = num\nplus a a = a\n", ("left", 0, 0, (1,))),
                (KINDS + "def plus num num = num\nplus a plus = a\n", ("left", 0, 0, (1,))),
                (KINDS + "def plus num num = num\nplus a (either b c) = a\n", ("left", 0, 0, (1,))),
                (KINDS + "def plus num num = num\nplus a b = next plus a b\n", ("right", 0, 0, ())),
                (KINDS + "def plus num num = num\nplus a b = c\n", ("right", 0, 0, ())),
                (KINDS + "def plus num num = num\nplus a b = plus a end\n", ("right", 0, 0, (1,))),
                (KINDS + "def plus num num = num\nplus a b = plus a (plus a (plus a b))\n", ("right", 0, 0, ()))):
            self.assertEqual(row_of(text), place)

    def test_counts_and_sizes_are_looked_at_behind(self):
        for text in (
                "def f = truth\n", "def f = truth\ndef g = truth\ng = yes\n", "kind a = b | c | d | e | f\n",
                "".join(f"kind {word} = m{word}\n" for word in "abcde"),
                "".join(f"def {word} = truth\n{word} = yes\n" for word in "abcdefg"),
                "def f = truth\n" + "f = yes\n" * 9, KINDS + "def f = num\nf = " + saying_text(tower(9)) + "\n",
                KINDS + "def f num = num\nf (next (next (next (next a)))) = a\n"):
            self.assertEqual(row_of(text), ())
        for text in (
                "kind a = b | c | d | e\n", "".join(f"kind {word} = m{word}\n" for word in "abcd"),
                "".join(f"def {word} = truth\n{word} = yes\n" for word in "abcdef"), "def f = truth\n" + "f = yes\n" * 8,
                KINDS + "def f = num\nf = " + saying_text(tower(8)) + "\n",
                KINDS + "def f num = num\nf (next (next (next a))) = a\n"):
            self.assertIsInstance(row_of(text), Program)

    def test_a_row_too_many_of_parts_is_no_text(self):
        self.assertEqual(row_of("kind a = b a a a a\n"), 0)
        self.assertEqual(row_of("def f truth truth truth truth = truth\n"), 0)
        self.assertEqual(row_of("def f = truth\nf a b c d = yes\n"), 1)

    def test_one_sign_changed_anywhere(self):
        dice = Dice(5)
        signs = list(" \n()|=abnext1A") + ["next ", " = ", " | ", "either ", "kind ", "def ", "truth", "same a b"]
        for program in (Program((NUM,), (PLUS,)), TRUTHS, Thrown(3).program, Thrown(8).program, LISTS):
            text = program_text(program)
            for step in range(1500):
                at = dice.below(len(text) + 1)
                cut = dice.below(3)
                sign = dice.one_of(signs) if dice.below(4) else ""
                other = text[:at] + sign + text[at + cut:]
                if dice.below(3) == 0:
                    at = dice.below(len(other) + 1)
                    other = other[:at] + dice.one_of(signs) + other[at:]
                due = read_by_letters(other)
                told = row_of(other)
                self.assertEqual(told, due if isinstance(due, int) else program_or_place(*due), other)
                if not isinstance(due, int) and isinstance(told, Program):
                    self.assertEqual(program_text(told), other)

    def test_rows_moved_and_left_out(self):
        dice = Dice(9)
        found = set()
        for step in range(600):
            rows = TEXT.split("\n")[:-1]
            for turn in range(1 + dice.below(3)):
                row = rows.pop(dice.below(len(rows)))
                if dice.below(3):
                    rows.insert(dice.below(len(rows) + 1), row)
            other = "\n".join(rows) + ("\n" if dice.below(5) else "")
            due = read_by_letters(other)
            told = row_of(other)
            self.assertEqual(told, due if isinstance(due, int) else program_or_place(*due), other)
            found.add(type(told))
        self.assertEqual(found, {int, tuple, Program})


class Sayings(unittest.TestCase):
    def test_what_is_not_written_so(self):
        for text in (
                "", " ", "x ", " x", "x y", "(x)", "x\n", "\n", "nought\n", "(next x)", "next  x", "next (x)", "next (next x",
                "next next x)", "plus (next x)y", "plus(next x) y", "next ( next x)", "next (next x )", "next ()", "()", "(",
                ")", "either x", "either", "same x", "same x y z", "either x y z", "plus x y z w", "kind", "def", "truth",
                "next truth", "abcdefghi", "next abcdefghi", "1", "next 1", "X", "next X", "x1", "x = y", "plus x | y",
                "next\tx", "x\r", "\u00e4", "next \u0661", "z x", "x (next x)", "next ((next x))", "(next) x"):
            with self.assertRaises(NoText) as caught:
                read_saying(NUMBERS, text)
            self.assertEqual(caught.exception.row, 0)
            self.assertIsNone(saying_by_letters(NUMBERS, text))

    def test_what_is_not_right_but_written_right(self):
        for text, saying in (
                ("next", made("next")), ("nought x", made("nought", X)), ("next x y", made("next", X, Y)), ("z", name("z")),
                ("plus", call("plus")), ("plus x y end", call("plus", X, Y, END)), ("next yes", made("next", YES)),
                ("next plus x", made("next", call("plus"), X)), ("no", NO), ("yes x", made("yes", X)),
                ("same end nought", same(END, NOUGHT)), ("either next plus", either(made("next"), call("plus")))):
            self.assertEqual(read_saying(NUMBERS, text), saying)
            self.assertEqual(saying_text(saying), text)

    def test_by_the_programs_words(self):
        self.assertEqual(read_saying(LISTS, "join x y"), call("join", X, Y))
        with self.assertRaises(NoText):
            read_saying(NUMBERS, "join x y")
        self.assertEqual(read_saying(NUMBERS, "same join x"), same(name("join"), X))

    def test_one_sign_changed_anywhere(self):
        dice = Dice(6)
        signs = list(" ()xnext1|=") + ["next ", "(next x)", "either ", "same x y", " nought", "plus ", "truth"]
        count = 0
        for program, names, saying in ASKINGS:
            text = saying_text(saying)
            for step in range(120):
                other = text
                for turn in range(1 + dice.below(2)):
                    at = dice.below(len(other) + 1)
                    other = other[:at] + (dice.one_of(signs) if dice.below(4) else "") + other[at + dice.below(3):]
                due = saying_by_letters(program, other)
                try:
                    told = read_saying(program, other)
                except NoText as error:
                    told = None
                    self.assertEqual(error.row, 0)
                self.assertEqual(told, due, other)
                if told is not None:
                    count += 1
                    self.assertEqual(saying_text(told), other)
        self.assertGreater(count, 200)

    def test_nothing_is_changed(self):
        saying = same(call("plus", X, tower(3)), either(B, C))
        kept = copy.deepcopy(saying)
        self.assertEqual(saying_text(saying), saying_text(saying))
        self.assertEqual(saying, kept)


if __name__ == "__main__":
    unittest.main()

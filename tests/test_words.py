"""Point 2: what is a word, a saying, a thing, a plain thing, whatever is handed in."""

import copy
import unittest

from needfill.forms import NO, SKIP, YES, is_plain, is_saying, is_thing, is_word
from needfill.programs import Program
from tests.samples import (
    A, B, FUNCTIONS, KINDS, NOUGHT, call, either, made, name, nothings, part_at, places_in, put_at, same, tower,
)

CHECKS = (is_word, is_saying, is_thing, is_plain)
LETTERS = "abcdefghijklmnopqrstuvwxyz"


class Told(unittest.TestCase):
    def tells(self, thing, saying, thinglike, plain):
        """What the three looks at sayings tell of it."""
        self.assertIs(is_saying(thing), saying, thing)
        self.assertIs(is_thing(thing), thinglike, thing)
        self.assertIs(is_plain(thing), plain, thing)

    def is_none(self, thing):
        self.tells(thing, False, False, False)


class Words(Told):
    def test_the_truths_and_the_skip(self):
        self.assertEqual(SKIP, ("skip",))
        self.assertEqual(YES, ("made", "yes", ()))
        self.assertEqual(NO, ("made", "no", ()))

    def test_lengths(self):
        for many in range(12):
            self.assertIs(is_word("z" * many), 1 <= many <= 8, many)

    def test_every_letter_and_no_other_sign(self):
        signs = [chr(code) for code in range(0x3000)] + ["\u212a", "\uff41", "\ud800", "\U0001d41a"]
        for sign in signs:
            good = sign in LETTERS
            for text in (sign, "a" + sign, sign + "a", "ab" + sign + "cd"):
                self.assertIs(is_word(text), good, repr(text))

    def test_words_that_are_none(self):
        for text in ("kind", "def", "either", "same", "truth"):
            self.assertIs(is_word(text), False, text)
            for other in (text + "s", "a" + text, text[:-1], text[1:]):
                self.assertIs(is_word(other), True, other)

    def test_words_that_stand_elsewhere_too(self):
        for text in ("name", "made", "call", "skip", "yes", "no", "rule", "none"):
            self.assertIs(is_word(text), True, text)

    def test_new_names_are_no_words(self):
        for text in ("1", "9", "999"):
            self.assertIs(is_word(text), False, text)


class Sayings(Told):
    def test_names(self):
        for text in ("a", "abcdefgh", "yes", "name", "1", "9", "10", "99", "100", "999"):
            self.tells(name(text), True, True, False)
        for text in ("0", "00", "01", "007", "000", "1000", "1001", "9999", "-1", "+1", " 1", "1 ", "1.", "1_0", "1a",
                     "\u0661", "\u00b2", "\uff11", "1\n"):
            self.is_none(name(text))

    def test_every_new_name(self):
        for number in range(-5, 1100):
            self.assertIs(is_saying(name(str(number))), 1 <= number <= 999, number)
            self.assertIs(is_thing(name(str(number))), 1 <= number <= 999, number)

    def test_every_sign_in_a_new_name(self):
        for sign in [chr(code) for code in range(0x700)] + ["\uff11", "\ud800"]:
            self.assertIs(is_saying(name("1" + sign)), sign in "0123456789", repr(sign))
            self.assertIs(is_saying(name(sign + "1")), sign in "123456789", repr(sign))

    def test_heads(self):
        self.tells(made("nought"), True, True, True)
        self.tells(YES, True, True, True)
        self.tells(NO, True, True, True)
        self.tells(call("plus"), True, False, False)
        self.tells(either(A, B), True, False, False)
        self.tells(same(A, B), True, False, False)
        self.tells(SKIP, True, False, False)
        for head in ("", "Name", "names", "mad", "calls", "skipped", "rule", "as", "1", None, 0, True, [], (), {}):
            for rest in ((), ("a",), ("a", ()), (A, B), (NOUGHT, NOUGHT)):
                self.is_none((head, *rest))

    def test_makers_and_functions_are_words(self):
        for text in ("1", "999", "truth", "kind", "", "abcdefghi", "A", None, 1, A):
            self.is_none(("made", text, ()))
            self.is_none(("call", text, ()))
        for text in ("yes", "no", "abcdefgh"):
            self.tells(("made", text, ()), True, True, True)
            self.tells(("call", text, ()), True, False, False)

    def test_how_many_parts(self):
        for many in range(6):
            good = many <= 3
            self.tells(made("next", *[NOUGHT] * many), good, good, good)
            self.tells(made("next", *[A] * many), good, good, good and many == 0)
            self.tells(call("plus", *[NOUGHT] * many), good, False, False)
        for head in ("either", "same"):
            for many in range(5):
                self.tells((head, *[NOUGHT] * many), many == 2, False, False)

    def test_a_part_too_few_or_too_many(self):
        for good in (A, NOUGHT, call("plus", A), either(A, B), same(A, B), SKIP):
            self.assertIs(is_saying(good), True)
            self.is_none(good[:-1])
            for more in ((), "a", A, None):
                self.is_none((*good, more))
        self.is_none(())

    def test_parts_decide(self):
        self.tells(made("next", A), True, True, False)
        self.tells(made("next", made("next", A)), True, True, False)
        for part in (call("plus"), either(A, B), same(A, B), SKIP):
            self.tells(made("pair", NOUGHT, part), True, False, False)
            self.tells(made("pair", part, NOUGHT), True, False, False)
            self.tells(made("next", made("next", part)), True, False, False)
        for part in nothings():
            for whole in (made("next", part), call("plus", NOUGHT, part), either(part, A), either(A, part),
                          same(part, A), same(A, part), made("next", made("next", part)), ("made", "next", part)):
                self.is_none(whole)

    def test_a_list_where_a_tuple_is_due(self):
        for good in (A, NOUGHT, made("pair", A, NOUGHT), call("plus", A), either(A, B), same(A, B), SKIP):
            self.is_none(list(good))
            self.is_none(made("next", list(good)))
        self.is_none(("made", "nought", []))
        self.is_none(("call", "plus", [A, B]))

    def test_forty_within_one_another(self):
        self.tells(tower(40), True, True, True)
        thing = SKIP
        for step in range(39):
            thing = same(thing, A)
        self.tells(thing, True, False, False)
        wide = tuple(made("next", NOUGHT) for step in range(5000))
        self.is_none(("made", "next", wide))


class Anything(Told):
    def test_nothings(self):
        for thing in nothings():
            before = copy.deepcopy(thing)
            self.assertIs(is_word(thing), False, thing)
            self.is_none(thing)
            self.assertEqual(thing, before)

    def test_what_is_changed_a_little_raises_nothing(self):
        told = made("pair", call("plus", A, SKIP), either(same(A, name("1")), NOUGHT))
        for path in places_in(told):
            for part in nothings() + ["a", "1", (), A, SKIP, YES]:
                changed = put_at(told, path, part)
                for check in CHECKS:
                    self.assertIn(check(changed), (True, False))
            if isinstance(part_at(told, path), tuple):
                self.is_none(put_at(told, path, list(part_at(told, path))))

    def test_a_program_is_no_saying(self):
        program = Program(KINDS, FUNCTIONS)
        for thing in (program, (program,), ("name", program), made("next", program), (program, A, B)):
            for check in CHECKS:
                self.assertIs(check(thing), False)


if __name__ == "__main__":
    unittest.main()

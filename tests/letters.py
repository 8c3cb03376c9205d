"""Point 25's reading told once more, sign by sign: for tests of texts."""

import re

WORD = r"(?!(?:kind|def|either|same|truth)(?![a-z]))[a-z]{1,8}(?![a-z])"
KIND = rf"(?:truth(?![a-z])|{WORD})"
MAKER = rf"{WORD}(?: {KIND}){{0,3}}"
KIND_ROW = re.compile(rf"kind ({WORD}) = ({MAKER}(?: \| {MAKER})*)")
DEF_ROW = re.compile(rf"def ({WORD})((?: {KIND}){{0,3}}) = ({KIND})")


class Wrong(Exception):
    """A text that isn't written so."""


class Reader:
    """Reads sayings sign by sign."""

    def __init__(self, text, makers, functions):
        self.text, self.at, self.makers, self.functions = text, 0, makers, functions

    def sign(self):
        return self.text[self.at:self.at + 1]

    def take(self, text):
        if not self.text.startswith(text, self.at):
            raise Wrong
        self.at += len(text)

    def word(self):
        found = re.compile(r"[a-z]+").match(self.text, self.at)
        if not found:
            raise Wrong
        self.at = found.end()
        return found.group()

    def parts(self):
        """The parts that follow, each behind a blank; none where no blank follows, or the sign behind it is =."""
        found = []
        while self.sign() == " " and self.text[self.at + 1:self.at + 2] != "=":
            self.take(" ")
            found.append(self.part())
        if len(found) > 3:
            raise Wrong
        return tuple(found)

    def part(self):
        if self.sign() != "(":
            return self.built(self.word(), ())
        self.take("(")
        word = self.word()
        parts = self.parts()
        self.take(")")
        if not parts:
            raise Wrong
        return self.built(word, parts)

    def built(self, word, parts):
        if word in ("either", "same"):
            if len(parts) != 2:
                raise Wrong
            return (word, *parts)
        if len(word) > 8 or word in ("kind", "def", "truth"):
            raise Wrong
        if word in self.makers:
            return ("made", word, parts)
        if word in self.functions:
            return ("call", word, parts)
        if parts:
            raise Wrong
        return ("name", word)

    def saying(self):
        word = self.word()
        found = self.built(word, self.parts())
        if self.at != len(self.text):
            raise Wrong
        return found

    def rule(self, function):
        if self.word() != function:
            raise Wrong
        left = self.parts()
        self.take(" = ")
        return left, self.saying()


def read_by_letters(text):
    """(kinds, functions), or the number of the first wrong row."""
    rows = text.split("\n")
    makers, functions = {"yes", "no"}, set()
    for row in rows:
        found = KIND_ROW.fullmatch(row)
        if found:
            makers |= {maker.split(" ")[0] for maker in found.group(2).split(" | ")}
        found = DEF_ROW.fullmatch(row)
        if found:
            functions.add(found.group(1))
    kinds, defs = [], []
    for at, row in enumerate(rows[:-1]):
        kind, start = KIND_ROW.fullmatch(row), DEF_ROW.fullmatch(row)
        if kind and not defs:
            words = [maker.split(" ") for maker in kind.group(2).split(" | ")]
            kinds.append((kind.group(1), tuple((maker[0], tuple(maker[1:])) for maker in words)))
        elif start:
            defs.append((start.group(1), tuple(start.group(2).split()), start.group(3), ()))
        else:
            try:
                rule = Reader(row, makers, functions).rule(defs[-1][0] if defs else "")
            except Wrong:
                return at
            defs[-1] = (*defs[-1][:3], (*defs[-1][3], rule))
    if rows[-1]:
        return len(rows) - 1
    return tuple(kinds), tuple(defs)


def saying_by_letters(program, text):
    """The saying of a text, None where it isn't written so."""
    makers = {"yes", "no"} | {maker for kind, makers in program.kinds for maker, parts in makers}
    functions = {row[0] for row in program.functions}
    try:
        return Reader(text, makers, functions).saying()
    except Wrong:
        return None

"""A desk, which does the rows of a text (point 26 of DOC.md)."""

from needfill.asker import Asker
from needfill.errors import BadSaying, Cut, NoMore, NoRow, NoTable, NoText, TooWide
from needfill.forms import LETTERS, is_text_of
from needfill.kinds import MOST_NAMES, is_named_kind
from needfill.places import kinds_there
from needfill.plain import TURNS
from needfill.reading import rows_of
from needfill.signs import signs_of
from needfill.texts import read_saying, saying_text

TURN_SIGNS = "012345678"


class Desk:
    """Keeps names and turns, and asks one asking at a time."""

    def __init__(self, program, *, turns=TURNS):
        self.program = program
        self.turns = turns
        self.names = {}
        self.asker = None
        self.entries = []
        self.free = True

    def run(self, text):
        """Does the rows of a text and tells a row for each; refuses with NoRow at the first that is none."""
        rows, rest = rows_of(text)
        told = []
        done = 0
        self.entries.append(("begin", len(rows) + (1 if rest else 0)))
        self.free = False
        try:
            for row in rows:
                answer = self.do_row(row)
                if answer is None:
                    raise NoRow(done)
                told.append(answer)
                done += 1
            if rest:
                raise NoRow(done)
        finally:
            self.entries.append(("end", done))
            self.free = True
        return tuple(told)

    def log(self):
        """What has begun and ended, in order."""
        return tuple(self.entries)

    def is_free(self):
        """Whether it does no text now."""
        return self.free

    def do_row(self, row):
        """What is told for a row, None for one that is none."""
        word, blank, rest = row.partition(" ")
        if row == "next":
            return self.tell_next()
        if word == "name" and are_two_words(rest):
            return self.keep_name(rest)
        if word == "ask" and blank:
            return self.ask_saying(rest)
        if word == "turns" and blank and " " not in rest:
            return self.keep_turns(rest)
        return None

    def keep_name(self, rest):
        """Keeps a name with its kind."""
        word, kind = rest.split(" ")
        signs = signs_of(self.program.kinds, self.program.functions)
        if not is_named_kind(signs, kinds_there(self.program.kinds), (word, kind)):
            return "no name"
        if word not in self.names and len(self.names) == MOST_NAMES:
            return "no name"
        self.names[word] = kind
        return "kept"

    def ask_saying(self, text):
        """Asks a saying by the names that are kept; where that comes to nothing, what is asked stays."""
        try:
            saying = read_saying(self.program, text)
            self.asker = Asker(self.program, tuple(self.names.items()), saying, turns=self.turns)
        except (NoText, BadSaying):
            return "no saying"
        except NoTable:
            return "no table"
        except TooWide:
            return "too wide"
        return "asked"

    def tell_next(self):
        """Tells the next answer of what is asked."""
        # An asker that has told nothing is empty, so whether there is one must be asked by None.
        if self.asker is None:
            return "nothing asked"
        try:
            answer = self.asker.tell()
        except NoMore:
            return "no more"
        except Cut:
            return "cut"
        return answer_text(answer)

    def keep_turns(self, text):
        """Keeps more turns, and widens what is asked."""
        turns = TURN_SIGNS.find(text) if len(text) == 1 else -1
        if turns < self.turns:
            return "no turns"
        try:
            if self.asker is not None:
                self.asker.widen(turns)
        except TooWide:
            return "too wide"
        self.turns = turns
        return "kept"


def are_two_words(text):
    """Whether it is two texts of small letters, however long, with one blank between."""
    words = text.split(" ")
    return len(words) == 2 and all([is_text_of(word, LETTERS, len(word)) for word in words])


def answer_text(answer):
    """The text of an answer: its fills, then its value."""
    fills = "; ".join([f"{name} = {saying_text(thing)}" for name, thing in answer[0]])
    return f"{fills}: {saying_text(answer[1])}"

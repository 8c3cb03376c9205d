"""The refusals. Each is made by its fields and bears them; Python keeps them as its message, too."""


class FillError(ValueError):
    """Any refusal."""


class BadProgram(FillError):
    """A program isn't right; place is its first wrong place."""

    def __init__(self, place):
        self.place = place


class BadNames(FillError):
    """The names of an asking aren't right."""


class BadSaying(FillError):
    """What is asked isn't right; path leads to its first wrong node."""

    def __init__(self, path):
        self.path = path


class NoTable(FillError):
    """A function, told by its name, has no table, as the clash shows."""

    def __init__(self, function, clash):
        self.function = function
        self.clash = clash


class TooWide(FillError):
    """An asking has more than so many ends."""

    def __init__(self, most):
        self.most = most


class BadTurns(FillError):
    """An asker can't be widened to such turns."""


class NoMore(FillError):
    """All answers are told, and more turns bring no more."""


class Cut(FillError):
    """All answers by so many turns are told, and more turns may bring more."""

    def __init__(self, turns):
        self.turns = turns


class NoText(FillError):
    """A text can't be read; row is the number of its first wrong row."""

    def __init__(self, row):
        self.row = row


class NoRow(FillError):
    """A desk doesn't know a row; row is its number."""

    def __init__(self, row):
        self.row = row

"""An asker, which tells the answers of an asking one by one (point 21 of DOC.md)."""

from needfill.answers import answers
from needfill.errors import BadTurns, Cut, NoMore
from needfill.plain import TURNS
from needfill.shapes import is_whole
from needfill.ways import MOST

MOST_TURNS = 8


class Asker:
    """Tells the answers of an asking by their turns, then by their choices; none twice."""

    def __init__(self, program, names, saying, *, turns=TURNS, most=MOST):
        self.program = program
        self.names = names
        self.saying = saying
        self.most = most
        self.given = []
        self.search(turns)

    def search(self, turns):
        """Finds what is left to be told by so many turns; where that is refused nothing is changed."""
        found, whole = answers(self.program, self.names, self.saying, turns=turns, most=self.most)
        told = [answer[:2] for answer in self.given]
        self.left = [answer for answer in found if answer[:2] not in told]
        self.whole = whole
        self.turns = turns

    def tell(self):
        """The next answer; refuses with NoMore or Cut where all are told."""
        if self.left:
            self.given.append(self.left.pop(0))
            return self.given[-1]
        if self.whole:
            raise NoMore()
        raise Cut(self.turns)

    def told(self):
        """The answers that it has told."""
        return tuple(self.given)

    def widen(self, turns):
        """Gives it more turns; refuses with BadTurns or TooWide and stays as it was then."""
        if not is_whole(turns) or not self.turns <= turns <= MOST_TURNS:
            raise BadTurns()
        self.search(turns)

    def limit(self):
        """Its turns."""
        return self.turns

    def __len__(self):
        return len(self.given)

"""Programs: kinds of built things, and functions by rules (points 4 and 5 of DOC.md)."""

from needfill.errors import BadProgram
from needfill.places import first_wrong_place
from needfill.shapes import TRUTH, TRUTH_MAKERS
from needfill.writing import program_rows


class Program:
    """A right program; whatever else is handed in is refused."""

    def __init__(self, kinds, functions):
        place = first_wrong_place(kinds, functions)
        if place is not None:
            raise BadProgram(place)
        self.kinds = kinds
        self.functions = functions

    def makers(self, kind):
        """The makers of a kind of the program, or of truth, with the kinds of their parts."""
        return TRUTH_MAKERS if kind == TRUTH else dict(self.kinds)[kind]

    def __eq__(self, other):
        return isinstance(other, Program) and self.kinds == other.kinds and self.functions == other.functions

    def __len__(self):
        return len([rule for function in self.functions for rule in function[3]])

    def __str__(self):
        return "".join([row + "\n" for row in program_rows(self.kinds, self.functions)])


def rules_of(program, function):
    """The rules of the function with that name; none where there is no such function."""
    for word, dues, kind, rules in program.functions:
        if word == function:
            return rules
    return ()

"""Texts of programs and sayings, written and read (point 25 of DOC.md)."""

from needfill.errors import NoText
from needfill.programs import Program
from needfill.reading import def_in, heads_in, kind_in, rows_of, rule_in, saying_in
from needfill.signs import signs_of
from needfill.writing import written


def program_text(program):
    """The text of a program."""
    return str(program)


def saying_text(saying):
    """The text of a saying."""
    return written(saying)


def read_program(text):
    """The program of a text; refuses with NoText, then with BadProgram."""
    rows, rest = rows_of(text)
    heads = heads_in(rows + [rest])
    kinds = []
    functions = []
    for at, row in enumerate(rows):
        kind, start = kind_in(row), def_in(row)
        if start is not None:
            functions.append((start, []))
        elif kind is not None and not functions:
            kinds.append(kind)
        else:
            rule = rule_in(heads, functions[-1][0][0], row) if functions else None
            if rule is None:
                raise NoText(at)
            functions[-1][1].append(rule)
    if rest:
        raise NoText(len(rows))
    return Program(tuple(kinds), tuple([(*start, tuple(rules)) for start, rules in functions]))


def read_saying(program, text):
    """The saying of a text by a program's words; refuses with NoText."""
    signs = signs_of(program.kinds, program.functions)
    saying = saying_in({word: sign[0] for word, sign in signs.items()}, text)
    if saying is None:
        raise NoText(0)
    return saying

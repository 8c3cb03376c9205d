"""How programs and sayings are written (point 25 of DOC.md)."""

from needfill.forms import parts_of


def saying_text(saying):
    """The text of a saying."""
    return applied_text(head_word(saying), parts_of(saying))


def head_word(saying):
    """The word with which a saying's text begins."""
    return saying[0] if saying[0] in ("either", "same") else saying[1]


def applied_text(word, parts):
    """A word with the texts of its parts behind it."""
    return " ".join([word] + [part_text(part) for part in parts])


def part_text(saying):
    """The text of a saying as a part: in brackets where it has parts itself."""
    text = saying_text(saying)
    return f"({text})" if parts_of(saying) else text


def kind_row(kind, makers):
    """The row of a kind."""
    written = " | ".join([" ".join([maker, *parts]) for maker, parts in makers])
    return f"kind {kind} = {written}"


def function_rows(function, dues, kind, rules):
    """The row of a function's def and those of its rules."""
    head = " ".join(["def", function, *dues])
    written = [f"{applied_text(function, left)} = {saying_text(right)}" for left, right in rules]
    return [f"{head} = {kind}"] + written


def program_rows(kinds, functions):
    """The rows of a program's text, without their line feeds."""
    rows = [kind_row(kind, makers) for kind, makers in kinds]
    for function, dues, kind, rules in functions:
        rows.extend(function_rows(function, dues, kind, rules))
    return rows

"""How programs and sayings are written (point 25 of DOC.md)."""

from needfill.forms import parts_of


def head_word(saying):
    """The word with which a saying's text begins."""
    return saying[0] if saying[0] in ("either", "same") else saying[1]


def applied_text(word, parts):
    """A word with the texts of its parts behind it."""
    words = [word]
    for part in parts:
        text = applied_text(head_word(part), parts_of(part))
        words.append(f"({text})" if parts_of(part) else text)
    return " ".join(words)


def written(saying):
    """The text of a saying."""
    return applied_text(head_word(saying), parts_of(saying))


def kind_row(kind, makers):
    """The row of a kind."""
    rest = " | ".join([" ".join([maker, *parts]) for maker, parts in makers])
    return f"kind {kind} = {rest}"


def function_rows(function, dues, kind, rules):
    """The row of a function's def and those of its rules."""
    head = " ".join(["def", function, *dues])
    rows = [f"{head} = {kind}"]
    for left, right in rules:
        rows.append(f"{applied_text(function, left)} = {written(right)}")
    return rows


def program_rows(kinds, functions):
    """The rows of a program's text, without their line feeds."""
    rows = [kind_row(kind, makers) for kind, makers in kinds]
    for function, dues, kind, rules in functions:
        rows.extend(function_rows(function, dues, kind, rules))
    return rows

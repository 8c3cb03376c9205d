"""How rows and sayings are read (point 25 of DOC.md). What isn't written so is told as None.

heads is a dict: of each word that is a maker's "made", of each that is a function's "call".
"""

from needfill.forms import MOST_PARTS, is_word
from needfill.shapes import TRUTH_MAKERS, are_kind_names, is_kind_name, is_maker_form


def rows_of(text):
    """The rows of a text that end with a line feed, without it, and what stands behind the last one."""
    rows = text.split("\n")
    rest = rows.pop()
    return rows, rest


def kind_in(row):
    """The (kind, makers) that a row is written as."""
    head, sign, rest = row.partition(" = ")
    words = head.split(" ")
    makers = tuple([maker_in(text) for text in rest.split(" | ")])
    if len(words) != 2 or words[0] != "kind" or not is_word(words[1]):
        return None
    return (words[1], makers) if all([is_maker_form(maker) for maker in makers]) else None


def maker_in(text):
    """The maker with the kinds of its parts, whatever these are."""
    words = text.split(" ")
    return (words[0], tuple(words[1:]))


def def_in(row):
    """The (function, kinds of arguments, kind) that a row is written as."""
    head, sign, kind = row.partition(" = ")
    words = head.split(" ")
    if len(words) < 2 or words[0] != "def" or not is_word(words[1]):
        return None
    dues = tuple(words[2:])
    return (words[1], dues, kind) if are_kind_names(dues) and is_kind_name(kind) else None


def heads_in(rows):
    """The heads of all words that these rows, as far as they are written as kinds and defs, make known."""
    kinds = [kind_in(row) for row in rows]
    starts = [def_in(row) for row in rows]
    heads = {start[0]: "call" for start in starts if start is not None}
    # A word that is both is a maker's, so these come last.
    for maker, parts in TRUTH_MAKERS:
        heads[maker] = "made"
    for kind in kinds:
        if kind is not None:
            for maker, parts in kind[1]:
                heads[maker] = "made"
    return heads


def rule_in(heads, function, row):
    """The (left, right) that a row is written as, a rule of that function."""
    left, sign, right = row.partition(" = ")
    items = items_in(left)
    if items is None or items[0] != function:
        return None
    patterns = parts_in(heads, items[1:])
    saying = saying_in(heads, right)
    return None if patterns is None or saying is None else (patterns, saying)


def saying_in(heads, text):
    """The saying that a text is written as."""
    items = items_in(text)
    return None if items is None else saying_of_items(heads, items)


def items_in(text):
    """The words of a text in a list, with a list of its own for each pair of brackets."""
    lists = [[]]
    # Blanks that are too many, or missing, leave a word that is none.
    for word in text.replace("(", "( ").replace(")", " )").split(" "):
        if word == "(":
            lists.append([])
        elif word == ")":
            inner = lists.pop()
            if not lists:
                return None
            lists[-1].append(inner)
        else:
            lists[-1].append(word)
    return lists[0] if len(lists) == 1 else None


def saying_of_items(heads, items):
    """The saying that is written by a word and its parts."""
    word = items[0]
    parts = parts_in(heads, items[1:])
    if parts is None or not isinstance(word, str):
        return None
    if word in ("either", "same"):
        return (word, *parts) if len(parts) == 2 else None
    if word in heads:
        return (heads[word], word, parts)
    return ("name", word) if is_word(word) and not parts else None


def parts_in(heads, items):
    """The sayings, at most three, that are written by words and lists."""
    if len(items) > MOST_PARTS:
        return None
    parts = [part_in(heads, item) for item in items]
    return None if None in parts else tuple(parts)


def part_in(heads, item):
    """The saying that is written by a word, or by a list for what has parts."""
    if isinstance(item, str):
        return saying_of_items(heads, [item])
    return saying_of_items(heads, item) if len(item) > 1 else None

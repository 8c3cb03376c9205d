"""The form and the sizes of programs and of the sayings in them (point 4 of DOC.md)."""

from needfill.forms import MOST_PARTS, is_node, is_word, names_of, parts_of

TRUTH = "truth"
TRUTH_MAKERS = (("yes", ()), ("no", ()))

MOST_KINDS = 4
MOST_MAKERS = 4
MOST_FUNCTIONS = 6
MOST_RULES = 8
MOST_NODES = 40
SAYING_DEPTH = 8
PATTERN_DEPTH = 4


def is_row(thing, least, most):
    """Whether it is a tuple of so many."""
    return isinstance(thing, tuple) and least <= len(thing) <= most


def is_whole(thing):
    """Whether it is a whole number; a truth is none."""
    return isinstance(thing, int) and not isinstance(thing, bool)


def is_sized(thing, depth):
    """Whether it is a saying without skips, not too large, with at most so many nodes within one another."""
    waiting = [(thing, 1)]
    many = 0
    while waiting:
        node, level = waiting.pop()
        many += 1
        if many > MOST_NODES or level > depth or not is_node(node) or node[0] == "skip":
            return False
        waiting.extend([(part, level + 1) for part in parts_of(node)])
    return True


def is_written(thing, depth):
    """Whether it can stand in a program by its form: a sized saying without new names."""
    return is_sized(thing, depth) and all([is_word(name) for name in names_of(thing)])


def is_kind_name(thing):
    """Whether it can be the kind of a part, of an argument or of a function by its form."""
    return is_word(thing) or thing == TRUTH


def are_kind_names(thing):
    """Whether it can be the kinds of parts or of arguments by its form."""
    return is_row(thing, 0, MOST_PARTS) and all([is_kind_name(kind) for kind in thing])


def is_maker_form(thing):
    """Whether it is (maker, kinds of parts)."""
    return is_row(thing, 2, 2) and is_word(thing[0]) and are_kind_names(thing[1])


def is_kind_form(thing):
    """Whether it is (kind, makers)."""
    if not is_row(thing, 2, 2) or not is_word(thing[0]) or not is_row(thing[1], 1, MOST_MAKERS):
        return False
    return all([is_maker_form(maker) for maker in thing[1]])


def is_rule_form(thing):
    """Whether it is (left, right); by the form a left side may have however many patterns."""
    if not is_row(thing, 2, 2) or not isinstance(thing[0], tuple):
        return False
    return all([is_written(pattern, PATTERN_DEPTH) for pattern in thing[0]]) and is_written(thing[1], SAYING_DEPTH)


def is_function_form(thing):
    """Whether it is (function, kinds of arguments, kind, rules)."""
    if not is_row(thing, 4, 4) or not is_word(thing[0]) or not are_kind_names(thing[1]):
        return False
    if not is_kind_name(thing[2]) or not is_row(thing[3], 1, MOST_RULES):
        return False
    return all([is_rule_form(rule) for rule in thing[3]])


def is_program_form(kinds, functions):
    """Whether the two are kinds and functions of a program by their form."""
    if not is_row(kinds, 0, MOST_KINDS) or not is_row(functions, 0, MOST_FUNCTIONS):
        return False
    return all([is_kind_form(row) for row in kinds]) and all([is_function_form(row) for row in functions])

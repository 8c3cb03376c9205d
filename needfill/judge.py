"""What a saying comes to by a tree, and the verdict of two unfinished things (points 11 and 12 of DOC.md)."""

from needfill.forms import NO, SKIP, YES, filled, fitted_row, is_unfinished
from needfill.programs import rules_of
from needfill.shapes import is_row, is_whole

AS_IT_IS = ("as",)
MOST_ROWS = 8


def comes_to(program, saying, tree):
    """What a right saying comes to by the tree, whatever that is; None where it doesn't stand."""
    return Judge(program).show(saying, tree)


def tree_turns(program, saying, tree):
    """The turns of the tree for a right saying; None where it doesn't stand."""
    judge = Judge(program)
    thing = judge.show(saying, tree)
    return None if thing is None else judge.rows + judge.pairs


def verdict(one, other):
    """The truth of two unfinished things, YES, NO or None, and how many pairs of mades were looked at."""
    pairs = 0
    waiting = [(one, other)]
    while waiting:
        first, second = waiting.pop()
        if first[0] == "made" and second[0] == "made":
            pairs += 1
            if first[1] != second[1]:
                return NO, pairs
            below = list(zip(first[2], second[2]))
            # What is put last is taken first, so the first pair must be last.
            waiting.extend(below[::-1])
        elif first[0] != "name" or first != second:
            return None, pairs
    return YES, pairs


class Judge:
    """Goes along one tree and counts its rule rows, and the pairs of mades that its same rows looked at."""

    def __init__(self, program):
        self.program = program
        self.rows = 0
        self.pairs = 0

    def show(self, saying, tree):
        """What the saying comes to by the tree; None where it doesn't stand."""
        if tree == SKIP:
            return SKIP
        if tree == AS_IT_IS:
            return saying if is_unfinished(saying) else None
        if not is_row(tree, 2, 4):
            return None
        form = (saying[0], tree[0], len(tree))
        if form == ("made", "made", 2):
            parts = self.show_parts(saying[2], tree[1])
            return None if parts is None else ("made", saying[1], parts)
        if form == ("call", "rule", 4):
            return self.show_call(saying, tree)
        if form == ("either", "left", 2):
            return self.show(saying[1], tree[1])
        if form == ("either", "right", 2):
            return self.show(saying[2], tree[1])
        if form == ("same", "same", 3):
            return self.show_same(saying, tree)
        return None

    def show_parts(self, parts, trees):
        """What the parts come to, each by its own tree; None where these aren't as many, or one doesn't stand."""
        if not is_row(trees, len(parts), len(parts)):
            return None
        things = []
        for part, tree in zip(parts, trees):
            thing = self.show(part, tree)
            if thing is None:
                return None
            things.append(thing)
        return tuple(things)

    def show_call(self, saying, tree):
        """What a call comes to by a rule row."""
        head, number, trees, rest = tree
        rules = rules_of(self.program, saying[1])
        # Things may grow with each rule, so the rows are counted ahead of what they come to.
        self.rows += 1
        if self.rows > MOST_ROWS or not is_whole(number) or not 0 <= number < len(rules):
            return None
        things = self.show_parts(saying[2], trees)
        if things is None:
            return None
        left, right = rules[number]
        fills = fitted_row(left, things)
        return None if fills is None else self.show(filled(right, fills), rest)

    def show_same(self, saying, tree):
        """What a same comes to by a same row."""
        things = self.show_parts(saying[1:], tree[1:])
        if things is None:
            return None
        truth, pairs = verdict(things[0], things[1])
        self.pairs += pairs
        return truth

"""Point 20: what holds for every program and asking: right, complete, least, apart, and by more turns."""

import unittest

from needfill.answers import answers, common, covers
from needfill.forms import filled, nodes_of
from needfill.judge import comes_to
from needfill.plain import fillings
from needfill.ways import ends
from tests.books import ASKINGS, LISTS, NUMBERS, TREES, TRUTHS, X, XY, Y, call, filled_kinds
from tests.dice import Thrown
from tests.samples import either, made, name, put_at, same, tower
from tests.test_judge import shown
from tests.test_plain import by_choices


def askings(seeds, either_too=True):
    """Askings of the books and of thrown programs."""
    for program, names, saying in ASKINGS:
        if either_too or not has_either(program, saying):
            yield program, names, saying
    for seed in range(seeds):
        thrown = Thrown(seed, either_too)
        for step in range(3):
            yield thrown.program, *thrown.asking()


def has_either(program, saying):
    sayings = [saying] + [right for row in program.functions for left, right in row[3]]
    return any(node[0] == "either" for part in sayings for path, node in nodes_of(part))


def some_fillings(program, names):
    """Fillings of names by plain things, at most 60, of those with few nodes."""
    return fillings(program, names, size=3 if len(names) < 4 else 2)[:60]


class Right(unittest.TestCase):
    def test_the_tree_as_it_stands_shows_the_value_however_the_names_are_filled(self):
        count = 0
        for program, names, saying in askings(400):
            for answer in answers(program, names, saying, turns=3)[0]:
                fills, value, tree, turns, log = answer
                for row in self.things(program, filled_kinds(program, names, fills)):
                    count += 1
                    asked = filled(saying, tuple((word, filled(thing, row)) for word, thing in fills))
                    self.assertEqual(comes_to(program, asked, tree), filled(value, row))
        self.assertGreater(count, 2000)

    def things(self, program, kinds):
        """Fills of new names: by plain things, by other names, one name for all of a kind, and unfinished ones."""
        yield from fillings(program, kinds, size=2 if len(kinds) < 5 else 1)[:20:3]
        yield tuple((word, name("n" + kind)) for word, kind in kinds if len(kind) < 8)
        yield tuple((word, made(maker, *[name("p" * (at + 1)) for at, part in enumerate(parts)]))
                    for word, kind in kinds for maker, parts in program.makers(kind)[-1:])


class Complete(unittest.TestCase):
    def covered(self, program, names, saying, turns):
        """Each filling, and each plain thing to which the saying so filled comes by so many turns, is an answer's."""
        count = 0
        told = answers(program, names, saying, turns=turns)[0]
        for fills in some_fillings(program, names):
            for choices, result in by_choices(program, filled(saying, fills), turns):
                if result[0] == "done":
                    count += 1
                    self.assertTrue(any(covers(answer, fills, result[1]) is not None for answer in told))
        return count

    def test_by_plain_reckoning(self):
        count = 0
        for program, names, saying in askings(160):
            for turns in (0, 2, 4):
                count += self.covered(program, names, saying, turns)
        self.assertGreater(count, 2000)

    def test_by_every_tree(self):
        # By the words of point 11 alone: all trees are tried, not those by need.
        count = 0
        for program, names, saying in (
                (NUMBERS, XY, call("plus", X, Y)), (NUMBERS, XY, same(X, Y)), (NUMBERS, XY, same(call("plus", X, Y), Y)),
                (NUMBERS, (("x", "num"),), call("first", call("twin", either(X, call("plus", X, X))))),
                (LISTS, (("x", "truth"), ("y", "truth")), call("both", X, call("or", Y, same(X, Y)))),
                (TREES, (("x", "tree"),), call("mirror", X)), (LISTS, XY, call("less", X, Y)),
                (TRUTHS, (("x", "truth"), ("y", "truth")), call("or", call("turn", X), Y))):
            for turns in (1, 2, 3):
                told = answers(program, names, saying, turns=turns)[0]
                for fills in some_fillings(program, names):
                    for tree, thing, rows, pairs in shown(program, filled(saying, fills), min(turns, 2)):
                        if rows + pairs <= turns and all(node[0] == "made" for path, node in nodes_of(thing)):
                            count += 1
                            self.assertTrue(any(covers(answer, fills, thing) is not None for answer in told))
        self.assertGreater(count, 1000)

    def test_no_answer_covers_what_no_tree_shows(self):
        for program, names, saying in askings(60):
            told = answers(program, names, saying, turns=3)[0]
            for fills in some_fillings(program, names)[:20]:
                values = [row[1][1] for row in by_choices(program, filled(saying, fills), 8) if row[1][0] == "done"]
                for answer in told:
                    for value in values:
                        if covers(answer, fills, value) is not None:
                            self.assertEqual(comes_to(program, filled(saying, fills), answer[2]), value)


class Least(unittest.TestCase):
    def test_a_made_put_back_into_a_name_that_stands_nowhere_else(self):
        count = 0
        for program, names, saying in askings(400):
            for fills, value, tree, turns, log in answers(program, names, saying, turns=3)[0]:
                for at, (word, thing) in enumerate(fills):
                    for path, node in nodes_of(thing):
                        if node[0] == "made":
                            count += 1
                            self.fails(program, saying, fills, tree, at, path, "999")
        self.assertGreater(count, 2000)

    def test_one_node_of_a_name_that_stands_several_times(self):
        count = 0
        for program, names, saying in askings(400):
            for fills, value, tree, turns, log in answers(program, names, saying, turns=3)[0]:
                nodes = [(at, path, node) for at, (word, thing) in enumerate(fills) for path, node in nodes_of(thing)]
                for at, path, node in nodes:
                    if node[0] == "name" and [other[2] for other in nodes].count(node) > 1:
                        count += 1
                        self.fails(program, saying, fills, tree, at, path, "999")
        self.assertGreater(count, 100)

    def fails(self, program, saying, fills, tree, at, path, word):
        """The tree shows nothing any more where that node of the fills is a name of its own."""
        steps = [step for number in path for step in (2, number)]
        other = put_at(fills, (at, 1, *steps), name(word))
        self.assertIsNone(comes_to(program, filled(saying, other), tree))


class Apart(unittest.TestCase):
    def test_without_either_no_two_answers_have_fills_in_common(self):
        count = 0
        for program, names, saying in askings(300, either_too=False):
            self.assertFalse(has_either(program, saying))
            told = answers(program, names, saying, turns=3)[0]
            for at, one in enumerate(told[:20]):
                for other in told[:at]:
                    count += 1
                    self.assertIsNone(common(one, other))
        self.assertGreater(count, 500)

    def test_with_either_they_may(self):
        told = answers(NUMBERS, XY, either(X, Y))[0]
        self.assertIsNotNone(common(told[0], told[1]))


class Turns(unittest.TestCase):
    def test_the_answers_by_fewer_turns_come_first(self):
        count = 0
        for program, names, saying in askings(80):
            told = [answers(program, names, saying, turns=turns) for turns in range(4)]
            for (fewer, whole), (more, later) in zip(told, told[1:]):
                self.assertEqual(more[:len(fewer)], fewer)
                if whole:
                    self.assertEqual((more, later), (fewer, True))
                else:
                    count += len(more) - len(fewer)
        self.assertGreater(count, 100)

    def test_those_that_are_new_use_the_turns(self):
        for program, names, saying in askings(40):
            for turns in (1, 2, 3):
                fewer = answers(program, names, saying, turns=turns - 1)[0]
                more = answers(program, names, saying, turns=turns)[0]
                self.assertTrue(all(answer[3] == turns for answer in more[len(fewer):]))

    def test_ends_that_are_not_cut_stay(self):
        for program, names, saying in askings(40):
            for turns in (0, 2):
                fewer = [end for end in ends(program, names, saying, turns=turns) if end[0] != "cut"]
                more = ends(program, names, saying, turns=turns + 1)
                self.assertEqual([end for end in fewer if end not in more], [])


if __name__ == "__main__":
    unittest.main()

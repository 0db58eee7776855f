"""Making (points 21 and 22): clues taken out in an order, and puzzles that are least."""

import copy
import random
import unittest

from cluemaker.books import follow
from cluemaker.errors import ClueError, NotOne
from cluemaker.maker import least, taken
from cluemaker.needed import settles
from cluemaker.puzzles import Puzzle
from cluemaker.solver import solve
from cluemaker.thinking import KINDS, think
from tests.making import all_answers, full_of, puzzle_by

LATIN = ["unlike 0 1 2", "unlike 3 4 5", "unlike 6 7 8", "unlike 0 3 6", "unlike 1 4 7", "unlike 2 5 8"]
FILLING = [1, 2, 3, 2, 3, 1, 3, 1, 2]


def without(clues, cell):
    return clues[:cell] + [0] + clues[cell + 1:]


def filled_by(chance):
    """A puzzle by chance with many of an answer's signs as clues."""
    while True:
        puzzle = puzzle_by(chance)
        answers = all_answers(puzzle.clued([0] * len(puzzle.clues())))
        if answers:
            answer = chance.choice(answers)
            often = chance.choice([0.6, 0.9, 1])
            return puzzle.clued([sign if chance.random() < often else 0 for sign in answer])


class Taken(unittest.TestCase):
    def asked(self, puzzle, order, kinds):
        """What is told, held against the same told once more."""
        told = taken(puzzle, order, kinds)
        if not settles(puzzle, kinds):
            self.assertIsNone(told)
            return None
        clues = puzzle.clues()
        for cell in order:
            if clues[cell] != 0 and settles(puzzle.clued(without(clues, cell)), kinds):
                clues = without(clues, cell)
        self.assertIs(type(told), tuple)
        self.assertEqual(told[0], clues, (puzzle.lines(), puzzle.clues(), order, kinds))
        self.assertEqual([cell for cell, masks in told[1]], [cell for cell in sorted(set(order)) if clues[cell] != 0])
        for cell, masks in told[1]:
            fewer = puzzle.clued(without(clues, cell))
            self.assertEqual(masks, think(fewer, full_of(puzzle), kinds)[0])
            self.assertIs(settles(fewer, kinds), False)
        # it keeps its one answer, and is still settled
        self.assertIs(settles(puzzle.clued(clues), kinds), True)
        self.assertEqual(all_answers(puzzle.clued(clues)), all_answers(puzzle))
        self.assertEqual(len(all_answers(puzzle)), 1)
        return told

    def test_some_told_by_hand(self):
        puzzle = Puzzle((1, 2, 2), ["unlike 0 1"], [1, 2])
        kinds = ["clue", "only"]
        self.assertEqual(taken(puzzle, [0, 1], kinds), ([0, 2], [(1, [3, 3])]))
        self.assertEqual(taken(puzzle, [1, 0], kinds), ([1, 0], [(0, [3, 3])]))
        self.assertEqual(taken(puzzle, [0], kinds), ([0, 2], []))
        self.assertEqual(taken(puzzle, [1], kinds), ([1, 0], []))
        self.assertEqual(taken(puzzle, [], kinds), ([1, 2], []))
        self.assertEqual(taken(puzzle, [0, 1], ["clue"]), ([1, 2], [(0, [3, 2]), (1, [1, 3])]))
        self.assertEqual(taken(puzzle, [1, 0], ["clue"]), ([1, 2], [(0, [3, 2]), (1, [1, 3])]))
        self.assertEqual(taken(puzzle, [1], ["clue"]), ([1, 2], [(1, [1, 3])]))

    def test_cells_twice_or_without_a_clue(self):
        puzzle = Puzzle((1, 3, 2), ["unlike 0 1", "unlike 1 2"], [1, 0, 1])
        kinds = list(KINDS)
        self.assertEqual(taken(puzzle, [1, 0, 0, 1, 2, 2, 0, 1], kinds), ([0, 0, 1], [(2, [3, 3, 3])]))
        self.assertEqual(taken(puzzle, [1, 1], kinds), ([1, 0, 1], []))
        self.assertEqual(taken(puzzle, [2, 2, 2, 0, 2, 0], kinds), ([1, 0, 0], [(0, [3, 3, 3])]))
        self.assertEqual(taken(puzzle, [0, 1, 2] * 133, kinds), ([0, 0, 1], [(2, [3, 3, 3])]))

    def test_none_where_the_kinds_do_not_settle_it(self):
        puzzle = Puzzle((3, 3, 3), LATIN, FILLING)
        for kinds in ([], ["only"], ["place", "pair", "ways"]):
            self.assertIsNone(taken(puzzle, list(range(9)), kinds))
        self.assertIsNone(taken(puzzle.clued([0] * 9), list(range(9)), list(KINDS)))
        self.assertIsNone(taken(puzzle.clued([1] * 9), list(range(9)), list(KINDS)))
        self.assertIsNone(taken(puzzle.clued([0] * 9), [], list(KINDS)))

    def test_clues_that_no_thought_needs(self):
        # the rules alone settle it, so all clues tried go; clue need not be among the kinds
        puzzle = Puzzle((1, 3, 3), ["rising 0 1 2"], [1, 2, 3])
        self.assertEqual(taken(puzzle, [2, 0, 1], ["step"]), ([0, 0, 0], []))
        self.assertEqual(taken(puzzle, [2, 0], ["step"]), ([0, 2, 0], []))

    def test_a_clue_not_in_the_order_stays(self):
        puzzle = Puzzle((3, 3, 3), LATIN, FILLING)
        told = self.asked(puzzle, [8, 7, 6], list(KINDS))
        self.assertEqual(told[0][:6], FILLING[:6])

    def test_by_chance(self):
        chance = random.Random(23)
        nones = 0
        stayed = 0
        for turn in range(200):
            puzzle = filled_by(chance)
            kinds = [kind for kind in KINDS if chance.random() < 0.6 or kind == "clue"]
            chance.shuffle(kinds)
            cells = list(range(len(puzzle.clues())))
            order = chance.choices(cells, k=chance.randrange(12)) if chance.random() < 0.5 else cells
            chance.shuffle(order)
            told = self.asked(puzzle, order, kinds)
            nones += told is None
            stayed += told is not None and len(told[1]) > 1
        self.assertGreater(nones, 20)
        self.assertGreater(stayed, 20)

    def test_latin_squares_in_many_orders(self):
        chance = random.Random(24)
        puzzle = Puzzle((3, 3, 3), LATIN, FILLING)
        for turn in range(20):
            order = list(range(9))
            chance.shuffle(order)
            clues, rests = self.asked(puzzle, order, list(KINDS))
            self.assertEqual([cell for cell in range(9) if clues[cell]], [cell for cell, masks in rests])


class Least(unittest.TestCase):
    def asked(self, puzzle):
        told = solve(puzzle)
        if told[0] != "one":
            with self.assertRaises(NotOne) as caught:
                least(puzzle)
            self.assertIsInstance(caught.exception, ClueError)
            return told[0]
        answer = told[1]
        clues = puzzle.clues()
        words = []
        for cell, clue in enumerate(clues):
            if clue != 0:
                words.append((cell, solve(puzzle.clued(without(clues, cell)))[0]))
        ends = [(cell, word) for cell, word in words if word != "two"]
        told = least(puzzle)
        self.assertIs(type(told), tuple)
        if not ends:
            self.assertEqual((told[0], len(told)), ("least", 2))
            self.assertEqual([cell for cell, filling in told[1]], [cell for cell, word in words])
            for cell, filling in told[1]:
                self.assertIn(filling, all_answers(puzzle.clued(without(clues, cell))))
                self.assertNotEqual(filling[cell], clues[cell])
        elif ends[0][1] == "rests":
            self.assertEqual(told, ("rests", ends[0][0]))
        else:
            self.assertEqual(told[:2], ("spare", ends[0][0]))
            self.assertEqual(len(told), 3)
            fewer = puzzle.clued(without(clues, ends[0][0]))
            self.assertEqual(follow(fewer, told[2]), [2 ** (sign - 1) for sign in answer])
            self.assertEqual(all_answers(fewer), [answer])
        return told[0]

    def test_by_chance(self):
        chance = random.Random(25)
        many = {}
        for turn in range(500):
            puzzle = puzzle_by(chance) if turn % 2 else filled_by(chance)
            word = self.asked(puzzle)
            many[word] = many.get(word, 0) + 1
        for word in ("least", "spare", "two", "none", "rests"):
            self.assertGreater(many.get(word, 0), 5, many)

    def test_some_told_by_hand(self):
        puzzle = Puzzle((1, 2, 2), ["unlike 0 1"], [1, 0])
        self.assertEqual(least(puzzle), ("least", [(0, [2, 1])]))
        self.assertEqual(least(puzzle.clued([1, 2]))[:2], ("spare", 0))
        self.assertEqual(least(Puzzle((1, 2, 2), [], [2, 1])), ("least", [(0, [1, 1]), (1, [2, 2])]))
        self.assertEqual(least(Puzzle((1, 2, 2), ["rising 0 1"], [0, 2]))[:2], ("spare", 1))

    def test_without_clues(self):
        self.assertEqual(least(Puzzle((1, 2, 2), ["rising 0 1"], [0, 0])), ("least", []))
        self.assertEqual(least(Puzzle((4, 4, 1), [], [0] * 16)), ("least", []))

    def test_it_rests(self):
        # without the clue 64 ways are left, though there are but two answers
        lines = ["unlike 0 1", "unlike 0 2", "unlike 0 3", "unlike 0 4", "unlike 0 5"]
        puzzle = Puzzle((1, 6, 2), lines, [1] + [0] * 5)
        self.assertEqual(len(all_answers(puzzle.clued([0] * 6))), 2)
        self.assertEqual(least(puzzle), ("rests", 0))
        # with one cell fewer it is seen that there are two
        self.assertEqual(least(Puzzle((1, 5, 2), lines[:4], [1] + [0] * 4)), ("least", [(0, [2, 1, 1, 1, 1])]))

    def test_the_first_that_is_not_two_is_told(self):
        lines = ["unlike 1 2", "unlike 1 3", "unlike 1 4", "unlike 1 5", "unlike 1 6"]
        puzzle = Puzzle((2, 4, 2), lines, [1, 1, 0, 0, 0, 0, 0, 2])
        self.assertEqual(least(puzzle), ("rests", 1))
        self.assertEqual(least(puzzle.clued([1, 0, 2, 0, 0, 0, 0, 2])), ("rests", 2))
        self.assertEqual(least(puzzle.clued([1, 1, 2, 0, 0, 0, 0, 2]))[:2], ("spare", 1))

    def test_refused(self):
        for puzzle in (Puzzle((1, 2, 2), ["unlike 0 1"], [0, 0]), Puzzle((1, 2, 2), ["unlike 0 1"], [1, 1]),
                       Puzzle((1, 6, 2), [], [0] * 6), Puzzle((1, 1, 1), ["sum 2 0"], [1]),
                       Puzzle((4, 4, 6), [], [1] * 14 + [0, 0])):
            with self.assertRaises(NotOne):
                least(puzzle)

    def test_puzzles_that_were_made(self):
        chance = random.Random(26)
        for turn in range(10):
            order = list(range(9))
            chance.shuffle(order)
            puzzle = Puzzle((3, 3, 3), LATIN, FILLING)
            made = puzzle.clued(taken(puzzle, order, list(KINDS))[0])
            self.assertIn(self.asked(made), ("least", "spare", "rests"))
            self.assertEqual(least(puzzle)[:2], ("spare", 0))


class Kept(unittest.TestCase):
    def test_what_is_handed_in_stays_and_told_is_the_askers_own(self):
        chance = random.Random(27)
        for turn in range(40):
            puzzle = filled_by(chance)
            kept = (puzzle.lines(), puzzle.clues())
            order = [0, 1, 1, 0]
            kinds = ["ways", "clue", "only", "clue"]
            told = taken(puzzle, order, kinds)
            again = copy.deepcopy(told)
            self.assertEqual((order, kinds), ([0, 1, 1, 0], ["ways", "clue", "only", "clue"]))
            if told is not None:
                for cell, masks in told[1]:
                    masks.append(99)
                told[0].append(99)
                told[1].append(99)
            self.assertEqual(taken(puzzle, order, kinds), again)
            self.assertEqual((puzzle.lines(), puzzle.clues()), kept)

    def test_least_is_the_askers_own(self):
        chance = random.Random(28)
        for turn in range(60):
            puzzle = filled_by(chance)
            if solve(puzzle)[0] == "one":
                kept = (puzzle.lines(), puzzle.clues())
                told = least(puzzle)
                again = copy.deepcopy(told)
                if told[0] == "least":
                    for cell, filling in told[1]:
                        filling.append(99)
                    told[1].append(99)
                if told[0] == "spare":
                    for thought in told[2]:
                        thought[4].append(99)
                    told[2].append(99)
                self.assertEqual(least(puzzle), again)
                self.assertEqual((puzzle.lines(), puzzle.clues()), kept)


if __name__ == "__main__":
    unittest.main()

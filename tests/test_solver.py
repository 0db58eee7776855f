"""Solving (point 19), over small puzzles whose answers are found by going through all fillings."""

import copy
import random
import unittest

from cluemaker.books import follow
from cluemaker.puzzles import Puzzle
from cluemaker.solver import solve
from cluemaker.thinking import KINDS, think
from tests.making import all_answers, deepest, full_of, puzzle_by

# what solving tells, and how many books lie in one another where supposings are needed
NEEDING = [
    ("none", 2, Puzzle((1, 3, 2), ["unlike 0 1", "unlike 1 2", "unlike 2 0"], [0] * 3)),
    ("none", 2, Puzzle((2, 2, 4), ["joined 2", "sum 11 1 3 0", "ring 3"], [0] * 4)),
    ("none", 3, Puzzle((2, 3, 2), ["count 1 2 1 2 0 3", "count 0 2 4", "count 2 2 1 3 2 0 4"], [0] * 6)),
    ("none", 4, Puzzle((1, 5, 2), ["count 4 2 4 3 0 2 1", "count 2 1 4 1 2 0 3", "count 3 2 0 4 2 1"], [0] * 5)),
    ("one", 2, Puzzle((2, 3, 2), ["ring 1", "count 1 1 4", "count 1 2 5 3 2"], [0] * 6)),
    ("one", 3, Puzzle((2, 2, 4), ["unlike 1 2", "sum 11 2 1 3", "unlike 3 2", "sum 13 1 2 3 0"], [0] * 4)),
    ("one", 4, Puzzle((1, 6, 2), ["sum 2 3", "count 3 2 0 5 3 4", "sum 8 3 4 2 0 5", "joined 1"], [0] * 6)),
]


def ways_of(masks):
    product = 1
    for mask in masks:
        product *= bin(mask).count("1")
    return product


class Solved(unittest.TestCase):
    def asked(self, puzzle):
        """What is told, held against all answers."""
        told = solve(puzzle)
        self.assertIs(type(told), tuple)
        answers = all_answers(puzzle)
        masks, book = think(puzzle, full_of(puzzle), list(KINDS))
        if 0 not in masks and ways_of(masks) > 32:
            self.rests(puzzle, told, masks)
        elif len(answers) == 0:
            self.none(puzzle, told)
        elif len(answers) == 1:
            self.one(puzzle, told, answers[0])
        else:
            self.two(told, answers)
        return told

    def rests(self, puzzle, told, masks):
        self.assertEqual(len(told), 3)
        self.assertEqual(told[:2], ("rests", masks))
        self.assertEqual(follow(puzzle, told[2]), masks)
        self.assertTrue(all(thought[0] in KINDS for thought in told[2]))

    def none(self, puzzle, told):
        self.assertEqual((len(told), told[0]), (2, "none"), puzzle.lines())
        self.assertIn(0, follow(puzzle, told[1]))

    def one(self, puzzle, told, answer):
        self.assertEqual(len(told), 3)
        self.assertEqual(told[:2], ("one", answer))
        self.assertEqual(follow(puzzle, told[2]), [2 ** (sign - 1) for sign in answer])

    def two(self, told, answers):
        self.assertEqual((len(told), told[0]), (3, "two"))
        self.assertIn(told[1], answers)
        self.assertIn(told[2], answers)
        self.assertNotEqual(told[1], told[2])

    def test_by_chance(self):
        chance = random.Random(19)
        many = {}
        for turn in range(500):
            told = self.asked(puzzle_by(chance))
            many[told[0]] = many.get(told[0], 0) + 1
        for word in ("one", "two", "none", "rests"):
            self.assertGreater(many.get(word, 0), 50, many)

    def test_where_supposings_are_needed(self):
        for word, deep, puzzle in NEEDING:
            told = self.asked(puzzle)
            self.assertEqual(told[0], word)
            self.assertEqual(deepest(told[-1]), deep)
            masks, book = think(puzzle, full_of(puzzle), list(KINDS))
            self.assertNotIn(0, masks)
            self.assertLessEqual(ways_of(masks), 32)

    def test_unlike_round_about(self):
        # an odd round of cells can't be filled with two signs, an even one can in two ways
        for many in range(2, 6):
            lines = [f"unlike {cell} {(cell + 1) % many}" for cell in range(many)]
            told = self.asked(Puzzle((1, many, 2), lines, [0] * many))
            self.assertEqual(told[0], "two" if many % 2 == 0 else "none")
            told = self.asked(Puzzle((1, many, 2), lines, [0] * (many - 1) + [1]))
            self.assertEqual(told[0], "one" if many % 2 == 0 else "none")

    def test_some_told_by_hand(self):
        self.assertEqual(solve(Puzzle((1, 2, 2), ["unlike 0 1"], [2, 0]))[:2], ("one", [2, 1]))
        self.assertEqual(solve(Puzzle((1, 1, 1), [], [0])), ("one", [1], []))
        self.assertEqual(solve(Puzzle((1, 1, 1), ["sum 2 0"], [0])), ("none", [("sum", 0, 0, 1, [])]))
        self.assertEqual(sorted(solve(Puzzle((1, 1, 2), [], [0]))[1:]), [[1], [2]])
        # the last cell alone is empty, with all others open
        self.assertEqual(solve(Puzzle((4, 4, 6), ["sum 7 15"], [0] * 16)),
                         ("none", [("sum", 0, 15, sign, []) for sign in range(1, 7)]))
        told = solve(Puzzle((1, 2, 2), ["unlike 0 1"], [2, 2]))
        self.assertEqual((told[0], len(told)), ("none", 2))

    def test_thirty_two_ways_and_more(self):
        for floor, clues, word in (
            ((1, 5, 2), [0] * 5, "two"), ((1, 6, 2), [0] * 6, "rests"), ((1, 6, 2), [0] * 5 + [1], "two"),
            ((1, 2, 5), [0, 0], "two"), ((1, 2, 6), [0, 0], "rests"), ((1, 3, 3), [0] * 3, "two"),
            ((1, 4, 3), [0] * 4, "rests"), ((4, 4, 6), [0] * 16, "rests"), ((4, 4, 1), [0] * 16, "one"),
            ((4, 4, 6), [1] * 15 + [0], "two"), ((4, 4, 6), [1] * 14 + [0, 0], "rests"), ((4, 4, 6), [1] * 16, "one"),
        ):
            told = solve(Puzzle(floor, [], clues))
            self.assertEqual(told[0], word, (floor, clues))
        # 32 ways, and each of them counts: one answer, or none
        every = "0 1 2 3 4"
        self.assertEqual(self.asked(Puzzle((1, 5, 2), [f"sum 5 {every}"], [0] * 5))[0], "one")
        self.assertEqual(self.asked(Puzzle((1, 5, 2), [f"count 6 1 {every}"], [0] * 5))[0], "none")

    def test_it_rests_though_there_is_no_answer(self):
        # two counts of the same six cells together leave no way, but no thought sees both
        lines = ["count 3 1 0 1 2 3 4 5", "count 2 1 0 1 2 3 4 5"]
        told = self.asked(Puzzle((1, 6, 2), lines, [0] * 6))
        self.assertEqual(told, ("rests", [3] * 6, []))


class Kept(unittest.TestCase):
    def puzzles(self):
        chance = random.Random(20)
        return [puzzle for word, deep, puzzle in NEEDING] + [puzzle_by(chance) for turn in range(40)]

    def test_what_is_handed_in_stays_and_asked_again_it_is_told_alike(self):
        for puzzle in self.puzzles():
            kept = (puzzle.place(), puzzle.lines(), puzzle.clues())
            told = solve(puzzle)
            self.assertEqual((puzzle.place(), puzzle.lines(), puzzle.clues()), kept)
            self.assertEqual(solve(puzzle), told)

    def test_what_is_told_is_the_askers_own(self):
        for puzzle in self.puzzles():
            told = solve(puzzle)
            kept = copy.deepcopy(told)
            for part in told[1:]:
                for thing in part:
                    if isinstance(thing, tuple):
                        thing[4].append(99)
                part.append(99)
            self.assertEqual(solve(puzzle), kept)


if __name__ == "__main__":
    unittest.main()

"""Which kinds settle a puzzle and which are needed (point 20)."""

import copy
import random
import unittest

from cluemaker.needed import needed, settles
from cluemaker.puzzles import Puzzle
from cluemaker.thinking import KINDS, think
from tests.making import all_answers, full_of, puzzle_by

LATIN = ["unlike 0 1 2", "unlike 3 4 5", "unlike 6 7 8", "unlike 0 3 6", "unlike 1 4 7", "unlike 2 5 8"]


def settled_by(puzzle, kinds):
    """The filling that the standstill leaves, where it is settled and an answer; else None."""
    masks = think(puzzle, full_of(puzzle), kinds)[0]
    if not all(mask in (1, 2, 4, 8, 16, 32) for mask in masks):
        return None
    filling = [mask.bit_length() for mask in masks]
    return filling if filling in all_answers(puzzle) else None


class Settles(unittest.TestCase):
    def test_some_told_by_hand(self):
        puzzle = Puzzle((3, 3, 3), LATIN, [1, 2, 0, 0, 0, 1, 0, 0, 0])
        self.assertIs(settles(puzzle, list(KINDS)), True)
        self.assertIs(settles(puzzle, ["clue", "only"]), True)
        self.assertIs(settles(puzzle, ["only", "only", "clue", "clue"]), True)
        self.assertIs(settles(puzzle, ["clue"]), False)
        self.assertIs(settles(puzzle, ["only"]), False)
        self.assertIs(settles(puzzle, []), False)
        self.assertIs(settles(puzzle.clued([0] * 9), list(KINDS)), False)

    def test_settled_but_no_answer(self):
        # the clues alone are thought of, and they don't meet the rule
        puzzle = Puzzle((1, 2, 2), ["unlike 0 1"], [1, 1])
        self.assertIs(settles(puzzle, ["clue"]), False)
        self.assertIs(settles(puzzle, list(KINDS)), False)
        self.assertIs(settles(puzzle.clued([1, 2]), ["clue"]), True)
        # the rule alone is thought of, and leaves another sign than the clue
        puzzle = Puzzle((1, 2, 2), ["rising 0 1"], [2, 0])
        self.assertIs(settles(puzzle, ["step"]), False)
        self.assertIs(settles(puzzle, ["step", "clue"]), False)
        self.assertIs(settles(puzzle.clued([1, 0]), ["step"]), True)

    def test_without_kinds_where_there_is_one_sign(self):
        self.assertIs(settles(Puzzle((2, 3, 1), [], [0] * 6), []), True)
        self.assertIs(settles(Puzzle((2, 3, 1), ["unlike 0 1"], [0] * 6), []), False)

    def test_supposing_is_not_among_them(self):
        puzzle = Puzzle((2, 2, 4), ["unlike 1 2", "sum 11 2 1 3", "unlike 3 2", "sum 13 1 2 3 0"], [0] * 4)
        self.assertEqual(len(all_answers(puzzle)), 1)
        self.assertIs(settles(puzzle, list(KINDS)), False)

    def test_by_chance_and_in_any_order(self):
        chance = random.Random(20)
        many = {True: 0, False: 0}
        for turn in range(400):
            puzzle = puzzle_by(chance)
            kinds = [kind for kind in KINDS if chance.random() < 0.7 or kind == "clue"]
            told = settled_by(puzzle, kinds) is not None
            many[told] += 1
            chance.shuffle(kinds)
            self.assertIs(settles(puzzle, kinds), told, (puzzle.lines(), puzzle.clues(), kinds))
            self.assertIs(settles(puzzle, kinds + kinds[:2]), told)
            if told:
                self.assertEqual(len(all_answers(puzzle)), 1)
        self.assertGreater(min(many.values()), 40)


class Needed(unittest.TestCase):
    def asked(self, puzzle):
        told = needed(puzzle)
        if settled_by(puzzle, list(KINDS)) is None:
            self.assertIsNone(told, (puzzle.lines(), puzzle.clues()))
            return None
        kinds, rests = told
        self.assertIs(type(told), tuple)
        # those left are found once more, one after the other
        left = list(KINDS)
        for kind in KINDS[::-1]:
            fewer = [other for other in left if other != kind]
            if settled_by(puzzle, fewer) is not None:
                left = fewer
        self.assertEqual(kinds, left, (puzzle.lines(), puzzle.clues()))
        self.assertIsNotNone(settled_by(puzzle, kinds))
        self.assertEqual([kind for kind, masks in rests], kinds)
        for kind, masks in rests:
            others = [other for other in kinds if other != kind]
            self.assertEqual(masks, think(puzzle, full_of(puzzle), others)[0])
            self.assertIs(settles(puzzle, others), False)
            self.assertNotIn(0, masks)
        return told

    def test_some_told_by_hand(self):
        self.assertEqual(needed(Puzzle((1, 2, 2), [], [1, 2])), (["clue"], [("clue", [3, 3])]))
        self.assertEqual(needed(Puzzle((1, 2, 2), ["unlike 0 1"], [1, 0])),
                         (["clue", "only"], [("clue", [3, 3]), ("only", [1, 3])]))
        self.assertEqual(needed(Puzzle((2, 3, 1), ["joined 1"], [0] * 6)), ([], []))
        self.assertEqual(needed(Puzzle((2, 3, 1), ["joined 1"], [1] * 6)), ([], []))

    def test_the_last_are_left_out_first(self):
        # sum and ways could each do it alone, and so could clue
        self.assertEqual(needed(Puzzle((1, 2, 3), ["sum 2 0 1"], [0, 0])), (["sum"], [("sum", [7, 7])]))
        self.assertEqual(needed(Puzzle((1, 2, 3), ["sum 2 0 1"], [1, 1])), (["clue"], [("clue", [7, 7])]))
        self.assertEqual(needed(Puzzle((1, 2, 2), ["rising 0 1", "sum 3 0 1"], [0, 0])), (["step"], [("step", [3, 3])]))
        self.assertEqual(needed(Puzzle((1, 2, 2), ["seen 2 0 1"], [0, 0])), (["ways"], [("ways", [3, 3])]))

    def test_none(self):
        for puzzle in (Puzzle((1, 1, 2), [], [0]), Puzzle((1, 1, 1), ["sum 2 0"], [0]),
                       Puzzle((1, 2, 2), ["unlike 0 1"], [1, 1]), Puzzle((3, 3, 3), LATIN, [0] * 9),
                       Puzzle((2, 2, 4), ["unlike 1 2", "sum 11 2 1 3", "unlike 3 2", "sum 13 1 2 3 0"], [0] * 4)):
            self.assertIsNone(needed(puzzle))

    def test_by_chance(self):
        chance = random.Random(21)
        seen = {}
        for turn in range(400):
            told = self.asked(puzzle_by(chance))
            for kind in ["none"] if told is None else told[0]:
                seen[kind] = seen.get(kind, 0) + 1
        for kind in ("none", "clue", "only", "count", "step", "sum", "reach", "turn", "ways"):
            self.assertGreater(seen.get(kind, 0), 0, seen)

    def test_larger_puzzles(self):
        square = ["unlike 0 1 2 3", "unlike 4 5 6 7", "unlike 8 9 10 11", "unlike 12 13 14 15", "unlike 0 4 8 12",
                  "unlike 1 5 9 13", "unlike 2 6 10 14", "unlike 3 7 11 15"]
        filling = [1, 2, 3, 4, 3, 4, 1, 2, 2, 1, 4, 3, 4, 3, 2, 1]
        for cells in ([0, 1, 2, 4, 5, 6, 8, 9, 10], [0, 5, 7, 8, 10, 13], [0, 6, 7, 9, 11, 13, 14]):
            puzzle = Puzzle((4, 4, 4), square, [filling[cell] if cell in cells else 0 for cell in range(16)])
            told = needed(puzzle)
            if told is not None:
                self.assertIs(settles(puzzle, told[0]), True)
                for kind, masks in told[1]:
                    others = [other for other in told[0] if other != kind]
                    self.assertIs(settles(puzzle, others), False)
                    self.assertEqual(think(puzzle, [15] * 16, others)[0], masks)
        self.assertEqual(needed(Puzzle((4, 4, 4), square, filling[:15] + [0]))[0], ["clue", "only"])


class Kept(unittest.TestCase):
    def test_what_is_handed_in_stays_and_told_is_the_askers_own(self):
        chance = random.Random(22)
        for turn in range(40):
            puzzle = puzzle_by(chance)
            kept = (puzzle.lines(), puzzle.clues())
            kinds = ["ways", "clue", "only", "clue"]
            settles(puzzle, kinds)
            self.assertEqual(kinds, ["ways", "clue", "only", "clue"])
            told = needed(puzzle)
            again = copy.deepcopy(told)
            if told is not None:
                for kind, masks in told[1]:
                    masks.append(99)
                told[0].append("none")
                told[1].append(99)
            self.assertEqual(needed(puzzle), again)
            self.assertEqual((puzzle.lines(), puzzle.clues()), kept)
            self.assertEqual(len(KINDS), 11)


if __name__ == "__main__":
    unittest.main()

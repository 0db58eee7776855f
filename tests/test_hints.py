"""Hints and wrong entries (points 23 and 24)."""

import copy
import random
import unittest

from cluemaker.books import follow_from, let_by
from cluemaker.hints import hint, wrong
from cluemaker.puzzles import Puzzle
from cluemaker.thinking import KINDS, next_thought, think
from tests.making import all_answers, puzzle_by

ALL = list(KINDS)


def masks_of(puzzle, entries):
    signs = puzzle.place()[2]
    return [2 ** (sign - 1) if sign else 2 ** signs - 1 for sign in entries]


def entries_by(chance, puzzle):
    """Some entries, mostly of an answer where there is one."""
    answers = all_answers(puzzle)
    signs = range(1, puzzle.place()[2] + 1)
    filling = chance.choice(answers) if answers else [chance.choice(signs) for clue in puzzle.clues()]
    often = chance.choice([0, 0.3, 0.6, 1])
    entries = [sign if chance.random() < often else 0 for sign in filling]
    for turn in range(chance.randrange(3)):
        entries[chance.randrange(len(entries))] = chance.choice(signs)
    return entries


class Hint(unittest.TestCase):
    def test_some_told_by_hand(self):
        puzzle = Puzzle((1, 3, 3), ["unlike 0 1 2"], [0, 0, 2])
        self.assertEqual(hint(puzzle, [0, 0, 0]), ("clue", 0, 2, 1, []))
        self.assertEqual(hint(puzzle, [0, 0, 2]), ("only", 0, 0, 2, [2]))
        self.assertEqual(hint(puzzle, [1, 0, 2]), ("only", 0, 1, 1, [0]))
        self.assertIsNone(hint(puzzle, [1, 3, 2]))
        # an entry against a clue
        self.assertEqual(hint(puzzle, [0, 0, 3]), ("clue", 0, 2, 3, []))
        self.assertEqual(hint(puzzle, [1, 1, 2]), ("only", 0, 0, 1, [1]))

    def test_none(self):
        puzzle = Puzzle((1, 3, 3), ["unlike 0 1 2"], [0, 0, 0])
        self.assertIsNone(hint(puzzle, [0, 0, 0]))
        for answer in all_answers(puzzle):
            self.assertIsNone(hint(puzzle, answer))
        self.assertIsNone(hint(Puzzle((1, 1, 1), [], [0]), [0]))
        self.assertIsNone(hint(Puzzle((4, 4, 6), [], [0] * 16), [0] * 16))

    def test_entries_need_not_have_the_clues(self):
        puzzle = Puzzle((1, 2, 2), [], [2, 2])
        for entries, thought in (([0, 0], ("clue", 0, 0, 1, [])), ([2, 0], ("clue", 0, 1, 1, [])), ([2, 2], None),
                                 ([1, 2], ("clue", 0, 0, 1, [])), ([2, 1], ("clue", 0, 1, 1, []))):
            self.assertEqual(hint(puzzle, entries), thought)

    def test_by_chance(self):
        chance = random.Random(29)
        seen = {}
        for turn in range(400):
            puzzle = puzzle_by(chance)
            entries = entries_by(chance, puzzle)
            masks = masks_of(puzzle, entries)
            told = hint(puzzle, entries)
            self.assertEqual(told, next_thought(puzzle, masks, ALL))
            if told is not None:
                self.assertIs(let_by(puzzle, masks, told), True)
                self.assertTrue(masks[told[2]] & 2 ** (told[3] - 1))
            seen[told and told[0]] = seen.get(told and told[0], 0) + 1
        for kind in (None, "clue", "only", "sum", "ways"):
            self.assertGreater(seen.get(kind, 0), 3, seen)


class Wrong(unittest.TestCase):
    def asked(self, puzzle, entries, kinds):
        """What is told, held against the same told once more."""
        told = wrong(puzzle, entries, kinds)
        if 0 not in think(puzzle, masks_of(puzzle, entries), kinds)[0]:
            self.assertIsNone(told)
            return None
        left = list(entries)
        for cell in range(len(entries) - 1, -1, -1):
            fewer = left[:cell] + [0] + left[cell + 1:]
            if 0 in think(puzzle, masks_of(puzzle, fewer), kinds)[0]:
                left = fewer
        self.assertIs(type(told), tuple)
        cells, book, rests = told
        self.assertEqual(cells, [cell for cell, sign in enumerate(left) if sign], (puzzle.lines(), entries, kinds))
        self.assertIn(0, follow_from(puzzle, masks_of(puzzle, left), book))
        self.assertTrue(all(thought[0] in kinds for thought in book))
        self.assertEqual([cell for cell, masks in rests], cells)
        for cell, masks in rests:
            others = left[:cell] + [0] + left[cell + 1:]
            self.assertEqual(masks, think(puzzle, masks_of(puzzle, others), kinds)[0])
            self.assertNotIn(0, masks)
        return told

    def test_some_told_by_hand(self):
        puzzle = Puzzle((1, 3, 3), ["unlike 0 1 2"], [0, 0, 2])
        self.assertIsNone(wrong(puzzle, [0, 0, 0], ALL))
        self.assertIsNone(wrong(puzzle, [1, 0, 0], ALL))
        self.assertIsNone(wrong(puzzle, [1, 3, 2], ALL))
        cells, book, rests = wrong(puzzle, [1, 2, 0], ["clue", "only"])
        self.assertEqual((cells, rests), ([1], [(1, [5, 5, 2])]))
        self.assertIn(0, follow_from(puzzle, [7, 2, 7], book))
        cells, book, rests = wrong(puzzle, [1, 1, 2], ["clue", "only"])
        self.assertEqual((cells, rests), ([0, 1], [(0, [4, 1, 2]), (1, [1, 4, 2])]))
        self.assertIn(0, follow_from(puzzle, [1, 1, 7], book))

    def test_many_that_clash_together_alone(self):
        puzzle = Puzzle((1, 4, 3), ["sum 5 0 1 3"], [0] * 4)
        cells, book, rests = self.asked(puzzle, [2, 2, 3, 2], ["sum"])
        self.assertEqual((cells, rests), ([0, 1, 3], [(0, [1, 2, 7, 2]), (1, [2, 1, 7, 2]), (3, [2, 2, 7, 1])]))
        puzzle = Puzzle((1, 6, 2), ["count 3 1 5 4 3 2 1 0"], [0] * 6)
        self.assertEqual(self.asked(puzzle, [1, 1, 2, 1, 1, 1], ["count"])[0], [0, 1, 3, 4])
        self.assertEqual(self.asked(puzzle, [2, 2, 1, 2, 2, 2], ALL)[0], [0, 1, 3, 4])

    def test_an_entry_against_a_clue(self):
        puzzle = Puzzle((1, 3, 3), [], [0, 0, 2])
        told = wrong(puzzle, [1, 1, 3], ["clue"])
        self.assertEqual(told, ([2], [("clue", 0, 2, 3, [])], [(2, [7, 7, 2])]))
        self.assertIsNone(wrong(puzzle, [1, 1, 3], ["only", "ways"]))
        self.assertIsNone(wrong(puzzle, [1, 1, 3], []))

    def test_the_last_is_left_out_first(self):
        # each of the three pairs alone clashes: the first two entries are left
        puzzle = Puzzle((1, 3, 3), ["unlike 0 1", "unlike 1 2", "unlike 0 2"], [0, 0, 0])
        self.assertEqual(self.asked(puzzle, [1, 1, 1], ["only"])[0], [0, 1])
        self.assertEqual(self.asked(puzzle, [0, 1, 1], ["only"])[0], [1, 2])
        self.assertEqual(self.asked(puzzle, [1, 0, 1], ["only"])[0], [0, 2])
        self.assertEqual(self.asked(puzzle, [1, 2, 1], ["only"])[0], [0, 2])
        self.assertIsNone(self.asked(puzzle, [1, 2, 3], ["only"]))

    def test_entries_that_are_none_at_all(self):
        # the clues alone clash, whatever is entered
        puzzle = Puzzle((1, 2, 2), ["unlike 0 1"], [1, 1])
        for entries in ([0, 0], [1, 0], [2, 2], [1, 1]):
            cells, book, rests = self.asked(puzzle, entries, ["only", "clue"])
            self.assertEqual((cells, rests), ([], []))
            self.assertIn(0, follow_from(puzzle, [3, 3], book))
        # by other kinds it is not seen
        self.assertIsNone(wrong(puzzle, [0, 0], ["clue"]))
        self.assertIsNone(wrong(puzzle, [0, 0], ["only"]))
        # the rules alone clash
        self.assertEqual(self.asked(Puzzle((1, 1, 1), ["sum 2 0"], [0]), [0], ["sum"]), ([], [("sum", 0, 0, 1, [])], []))

    def test_by_chance_and_kinds_in_any_order(self):
        chance = random.Random(30)
        many = {}
        for turn in range(500):
            puzzle = puzzle_by(chance)
            entries = entries_by(chance, puzzle)
            kinds = ALL if chance.random() < 0.4 else [kind for kind in KINDS if chance.random() < 0.6]
            told = self.asked(puzzle, entries, kinds)
            size = None if told is None else min(len(told[0]), 3)
            many[size] = many.get(size, 0) + 1
            mixed = kinds + kinds[:2]
            chance.shuffle(mixed)
            self.assertEqual(wrong(puzzle, entries, mixed), told)
            if told is None and entries in all_answers(puzzle):
                many["answer"] = many.get("answer", 0) + 1
        for size in (None, 0, 1, 2, "answer"):
            self.assertGreater(many.get(size, 0), 3, many)

    def test_entries_of_an_answer_are_never_wrong(self):
        chance = random.Random(31)
        for turn in range(200):
            puzzle = puzzle_by(chance)
            for answer in all_answers(puzzle)[:5]:
                entries = [sign if chance.random() < 0.5 else 0 for sign in answer]
                self.assertIsNone(wrong(puzzle, entries, ALL))


class Kept(unittest.TestCase):
    def test_what_is_handed_in_stays_and_told_is_the_askers_own(self):
        chance = random.Random(32)
        for turn in range(100):
            puzzle = puzzle_by(chance)
            entries = entries_by(chance, puzzle)
            kept = copy.deepcopy((puzzle.lines(), puzzle.clues(), entries))
            kinds = ["ways", "clue", "only", "clue"]
            told = wrong(puzzle, entries, kinds)
            again = copy.deepcopy(told)
            self.assertEqual(kinds, ["ways", "clue", "only", "clue"])
            if told is not None:
                told[0].append(99)
                for thought in told[1]:
                    thought[4].append(99)
                told[1].append(99)
                for cell, masks in told[2]:
                    masks.append(99)
                told[2].append(99)
            self.assertEqual(wrong(puzzle, entries, kinds), again)
            told = hint(puzzle, entries)
            again = copy.deepcopy(told)
            if told is not None:
                told[4].append(99)
            self.assertEqual(hint(puzzle, entries), again)
            self.assertEqual((puzzle.lines(), puzzle.clues(), entries), kept)


if __name__ == "__main__":
    unittest.main()

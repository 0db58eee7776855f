"""Thinking (points 17 and 18): the next thought against all thoughts gone through in the order told, and standstills
against thoughts thought in any order."""

import copy
import itertools
import random
import unittest

from cluemaker.books import follow, follow_from
from cluemaker.puzzles import Puzzle
from cluemaker.thinking import KINDS, next_thought, think
from cluemaker.thoughts import allowed
from tests.making import all_answers, full_of

WORDS = ["clue", "only", "place", "count", "step", "sum", "square", "reach", "turn", "pair", "ways"]

PUZZLES = [
    ((1, 1, 1), [], [0]),
    ((1, 1, 3), ["sum 2 0"], [0]),
    ((1, 3, 3), ["unlike 2 0 1", "rising 1 2"], [0, 2, 0]),
    ((1, 3, 3), ["unlike 2 0 1", "rising 1 2"], [0, 3, 0]),
    ((1, 4, 3), ["unlike 3 0 2", "rising 0 1 3", "sum 4 1 2", "seen 1 3 2 1 0", "count 1 2 0 2 3"], [0, 0, 0, 0]),
    ((1, 4, 4), ["unlike 3 1 0 2", "rising 2 0", "unlike 0 3 2"], [0, 0, 0, 0]),
    ((1, 5, 3), ["rising 4 0 2", "sum 7 3 2 1", "count 2 1 1 0 4", "unlike 0 3 1"], [0, 0, 0, 0, 3]),
    ((2, 2, 3), ["sum 7 0 1 2 3", "count 2 1 3 0 1", "unlike 1 3"], [0, 0, 0, 1]),
    ((2, 2, 2), ["unlike 0 1", "unlike 1 3", "unlike 3 0"], [0, 0, 0, 0]),
    ((2, 2, 4), ["unlike 3 2 1 0", "rising 3 1"], [0, 0, 0, 0]),
    ((2, 3, 2), ["nosquare 1", "joined 2", "nosquare 2"], [0] * 6),
    ((2, 3, 2), ["joined 1", "ring 2", "joined 2"], [0] * 6),
    ((3, 3, 2), ["ring 1", "joined 2"], [0] * 9),
    ((3, 3, 2), ["ring 2"], [0] * 9),
    ((2, 3, 3), ["joined 3", "nosquare 3", "unlike 5 4 0 3"], [0] * 6),
]
NAMES = {
    "only": ["unlike"], "place": ["unlike"], "count": ["count"], "step": ["rising"], "sum": ["sum"],
    "square": ["nosquare"], "reach": ["joined", "ring"], "turn": ["ring"], "pair": ["unlike"],
    "ways": ["unlike", "sum", "rising", "seen", "count", "joined", "nosquare", "ring"],
}
LENGTHS = {"only": [1], "place": [1], "square": [1], "reach": [1, 2], "turn": [0, 1], "pair": [2]}


def thoughts_in_order(puzzle):
    """All that could be let by, by kind, rule, cell, sign, more."""
    floor = puzzle.place()
    cells = range(floor[0] * floor[1])
    signs = range(1, floor[2] + 1)
    numbers = range(max(len(cells), floor[2] + 1))
    found = []
    for place, kind in enumerate(WORDS):
        rules = [0] if kind == "clue" else [k for k, rule in enumerate(puzzle.rules()) if rule.name() in NAMES[kind]]
        mores = [list(some) for many in LENGTHS.get(kind, [0]) for some in itertools.product(numbers, repeat=many)]
        for rule, cell, sign, more in itertools.product(rules, cells, signs, mores):
            found.append((place, rule, cell, sign, more))
    return [(WORDS[thought[0]],) + thought[1:] for thought in sorted(found)]


def stands(masks, thought):
    return masks[thought[2]] & 2 ** (thought[3] - 1) != 0


def first_by_order(puzzle, masks, kinds, thoughts):
    if 0 in masks:
        return None
    for thought in thoughts:
        if thought[0] in kinds and stands(masks, thought) and allowed(puzzle, masks, thought):
            return thought
    return None


def standstill_in_any_order(chance, puzzle, masks, kinds, thoughts):
    now = list(masks)
    left = [thought for thought in thoughts if thought[0] in kinds]
    chance.shuffle(left)
    struck = True
    while struck and 0 not in now:
        struck = False
        for thought in left:
            if 0 not in now and stands(now, thought) and allowed(puzzle, now, thought):
                now[thought[2]] -= 2 ** (thought[3] - 1)
                struck = True
        chance.shuffle(left)
    return now


def masks_by(chance, puzzle):
    full = 2 ** puzzle.place()[2] - 1
    often = chance.randrange(puzzle.place()[2])
    dense = chance.random()
    masks = []
    for cell in puzzle.clues():
        mask = full if chance.random() < dense else chance.randrange(1, full + 1)
        masks.append(2 ** often if chance.random() < 0.25 else mask)
    return masks


def kinds_by(chance):
    if chance.random() < 0.2:
        return list(WORDS)
    kinds = [word for word in WORDS if chance.random() < 0.5]
    return kinds + [kind for kind in kinds if chance.random() < 0.2]


class Kinds(unittest.TestCase):
    def test_the_eleven_words(self):
        self.assertIs(type(KINDS), tuple)
        self.assertEqual(list(KINDS), WORDS)


class Next(unittest.TestCase):
    def test_some_told_by_hand(self):
        puzzle = Puzzle((1, 3, 3), ["rising 0 1", "unlike 2 1 0"], [0, 0, 1])
        self.assertEqual(next_thought(puzzle, [7, 7, 7], WORDS), ("clue", 0, 2, 2, []))
        self.assertEqual(next_thought(puzzle, [7, 7, 1], WORDS), ("only", 1, 0, 1, [2]))
        self.assertEqual(next_thought(puzzle, [7, 7, 7], ["ways", "step", "place"]), ("step", 0, 0, 3, []))
        self.assertEqual(next_thought(puzzle, [3, 7, 7], ["ways", "step"]), ("step", 0, 1, 1, []))
        self.assertEqual(next_thought(puzzle, [7, 7, 7], ["ways"]), ("ways", 0, 0, 3, []))
        self.assertIsNone(next_thought(puzzle, [7, 7, 7], ["only", "place", "pair"]))
        self.assertIsNone(next_thought(puzzle, [2, 4, 1], WORDS))

    def test_the_least_more_goes_first(self):
        puzzle = Puzzle((1, 5, 3), ["unlike 4 3 2 1 0"], [0] * 5)
        # told ahead is 4; as numbers 0 and 1 go first
        self.assertEqual(next_thought(puzzle, [1, 1, 7, 7, 7], ["only"]), ("only", 0, 0, 1, [1]))
        self.assertEqual(next_thought(puzzle, [6, 1, 1, 7, 7], ["only"]), ("only", 0, 1, 1, [2]))
        self.assertEqual(next_thought(puzzle, [3, 7, 3, 3, 3], ["pair"]), ("pair", 0, 0, 1, [3, 2]))
        self.assertEqual(next_thought(puzzle, [4, 7, 3, 3, 3], ["pair"]), ("pair", 0, 1, 1, [3, 2]))
        puzzle = Puzzle((1, 5, 3), ["unlike 1 4 3 2 0"], [0] * 5)
        self.assertEqual(next_thought(puzzle, [4, 3, 3, 3, 3], ["pair"]), ("pair", 0, 1, 1, [3, 2]))
        self.assertEqual(next_thought(puzzle, [3, 3, 3, 3, 3], ["pair"]), ("pair", 0, 0, 1, [1, 2]))

    def test_the_least_place(self):
        puzzle = Puzzle((1, 3, 3), ["unlike 0 1 2"], [0] * 3)
        self.assertEqual(next_thought(puzzle, [7, 3, 3], ["place"]), ("place", 0, 0, 1, [3]))
        self.assertEqual(next_thought(puzzle, [7, 1, 1], ["place"]), ("place", 0, 0, 1, [2]))
        self.assertEqual(next_thought(puzzle, [7, 6, 6], ["place"]), ("place", 0, 0, 2, [1]))
        # more signs than a row has cells
        puzzle = Puzzle((2, 2, 4), ["unlike 0 1 2 3"], [0] * 4)
        self.assertEqual(next_thought(puzzle, [7, 7, 7, 15], ["place"]), ("place", 0, 3, 1, [4]))

    def test_reach_and_turn(self):
        puzzle = Puzzle((1, 6, 2), ["joined 1"], [0] * 6)
        self.assertEqual(next_thought(puzzle, [1, 3, 1, 2, 3, 3], ["reach"]), ("reach", 0, 1, 2, [0, 2]))
        self.assertEqual(next_thought(puzzle, [1, 1, 1, 2, 3, 3], ["reach"]), ("reach", 0, 4, 1, [0]))
        self.assertEqual(next_thought(puzzle, [2, 1, 3, 2, 3, 3], ["reach"]), ("reach", 0, 4, 1, [1]))
        self.assertEqual(next_thought(puzzle, [1, 1, 3, 3, 3, 1], ["reach"]), ("reach", 0, 2, 2, [0, 5]))
        puzzle = Puzzle((3, 3, 2), ["ring 1"], [0] * 9)
        self.assertEqual(next_thought(puzzle, [3] * 9, ["turn"]), None)
        self.assertEqual(next_thought(puzzle, [3, 2] + [3] * 7, ["turn"]), ("turn", 0, 0, 1, []))
        self.assertEqual(next_thought(puzzle, [1] + [3] * 8, ["turn"]), ("turn", 0, 1, 2, [0]))

    def test_against_all_thoughts_in_order(self):
        chance = random.Random(17)
        told = {}
        for floor, lines, clues in PUZZLES:
            puzzle = Puzzle(floor, lines, clues)
            thoughts = thoughts_in_order(puzzle)
            for turn in range(30):
                masks = masks_by(chance, puzzle)
                kinds = kinds_by(chance)
                thought = first_by_order(puzzle, masks, kinds, thoughts)
                chance.shuffle(kinds)
                self.assertEqual(next_thought(puzzle, masks, kinds), thought, (lines, masks, kinds))
                told[thought and thought[0]] = told.get(thought and thought[0], 0) + 1
        for kind in WORDS + [None]:
            self.assertGreater(told.get(kind, 0), 4, (kind, told))

    def test_of_one_kind_alone(self):
        chance = random.Random(18)
        for floor, lines, clues in PUZZLES:
            puzzle = Puzzle(floor, lines, clues)
            thoughts = thoughts_in_order(puzzle)
            for turn in range(3):
                masks = masks_by(chance, puzzle)
                for kind in WORDS:
                    thought = first_by_order(puzzle, masks, [kind], [one for one in thoughts if one[0] == kind])
                    self.assertEqual(next_thought(puzzle, masks, [kind]), thought, (lines, masks, kind))

    def test_none_where_the_masks_clash(self):
        for floor, lines, clues in PUZZLES:
            puzzle = Puzzle(floor, lines, [1] * len(clues))
            for cell in range(len(clues)):
                masks = full_of(puzzle)
                masks[cell] = 0
                self.assertIsNone(next_thought(puzzle, masks, WORDS))
                self.assertIsNone(next_thought(puzzle, [0] * len(clues), WORDS))

    def test_without_kinds(self):
        for floor, lines, clues in PUZZLES:
            puzzle = Puzzle(floor, lines, clues)
            self.assertIsNone(next_thought(puzzle, full_of(puzzle), []))
            self.assertEqual(think(puzzle, full_of(puzzle), []), (full_of(puzzle), []))


class Think(unittest.TestCase):
    def rounds(self, many):
        chance = random.Random(19)
        for floor, lines, clues in PUZZLES:
            puzzle = Puzzle(floor, lines, clues)
            thoughts = thoughts_in_order(puzzle)
            full = full_of(puzzle)
            yield chance, puzzle, full, list(WORDS), thoughts
            for turn in range(many):
                masks = full if chance.random() < 0.3 else masks_by(chance, puzzle)
                yield chance, puzzle, masks, kinds_by(chance), thoughts

    def test_a_book_to_a_clash_or_a_standstill(self):
        clashes = 0
        longest = 0
        for chance, puzzle, masks, kinds, thoughts in self.rounds(40):
            told = think(puzzle, masks, kinds)
            self.assertIs(type(told), tuple)
            end, book = told
            self.assertEqual(follow_from(puzzle, masks, book), end, (puzzle.lines(), masks, kinds))
            self.assertIsNone(next_thought(puzzle, end, kinds))
            for thought in book:
                self.assertIn(thought[0], kinds)
            clashes += 0 in end
            longest = max(longest, len(book))
        self.assertGreater(clashes, 30)
        self.assertGreater(longest, 8)

    def test_from_the_start_the_book_is_followed_from_there(self):
        for floor, lines, clues in PUZZLES:
            puzzle = Puzzle(floor, lines, clues)
            end, book = think(puzzle, full_of(puzzle), WORDS)
            self.assertEqual(follow(puzzle, book), end)

    def test_the_same_standstill_in_whatever_order(self):
        for chance, puzzle, masks, kinds, thoughts in self.rounds(8):
            end = think(puzzle, masks, kinds)[0]
            other = standstill_in_any_order(chance, puzzle, masks, kinds, thoughts)
            if 0 in end:
                self.assertIn(0, other, (puzzle.lines(), masks, kinds))
            else:
                self.assertEqual(end, other, (puzzle.lines(), masks, kinds))

    def test_kinds_in_any_order_some_twice(self):
        for chance, puzzle, masks, kinds, thoughts in self.rounds(20):
            end = think(puzzle, masks, kinds)[0]
            for turn in range(3):
                mixed = kinds + [kind for kind in kinds if chance.random() < 0.3]
                chance.shuffle(mixed)
                other = think(puzzle, masks, mixed)[0]
                self.assertEqual(0 in other, 0 in end)
                if 0 not in end:
                    self.assertEqual(other, end)

    def test_no_answer_is_struck_out(self):
        for chance, puzzle, masks, kinds, thoughts in self.rounds(20):
            end = think(puzzle, masks, kinds)[0]
            for answer in all_answers(puzzle):
                if all(mask & 2 ** (sign - 1) for mask, sign in zip(masks, answer)):
                    self.assertTrue(all(mask & 2 ** (sign - 1) for mask, sign in zip(end, answer)), (masks, end, answer))

    def test_settled_with_all_kinds_it_is_an_answer(self):
        settled = 0
        for chance, puzzle, masks, kinds, thoughts in self.rounds(20):
            end = think(puzzle, masks, WORDS)[0]
            if all(mask in (1, 2, 4, 8) for mask in end):
                settled += 1
                self.assertIs(puzzle.meets([mask.bit_length() for mask in end]), True)
        self.assertGreater(settled, 20)

    def test_from_masks_that_clash(self):
        for floor, lines, clues in PUZZLES:
            puzzle = Puzzle(floor, lines, [1] * len(clues))
            for cell in range(len(clues)):
                masks = full_of(puzzle)
                masks[cell] = 0
                self.assertEqual(think(puzzle, masks, WORDS), (masks, []))

    def test_within_masks_more_is_struck(self):
        for chance, puzzle, masks, kinds, thoughts in self.rounds(20):
            end = think(puzzle, masks, kinds)[0]
            fewer = [mask & chance.randrange(64) if chance.random() < 0.3 else mask for mask in masks]
            inner = think(puzzle, fewer, kinds)[0]
            if 0 in end:
                self.assertIn(0, inner)
            elif 0 not in inner:
                self.assertTrue(all(small | great == great for small, great in zip(inner, end)))


class Kept(unittest.TestCase):
    PUZZLE = ((2, 2, 3), ["sum 7 0 1 2 3", "count 2 1 3 0 1", "unlike 1 3", "joined 2"], [0, 0, 0, 1])

    def test_what_is_handed_in_stays(self):
        puzzle = Puzzle(*self.PUZZLE)
        masks, kinds = [7, 7, 7, 7], ["ways", "sum", "clue", "sum"]
        kept = copy.deepcopy((masks, kinds))
        next_thought(puzzle, masks, kinds)
        think(puzzle, masks, kinds)
        self.assertEqual((masks, kinds), kept)
        self.assertEqual((puzzle.lines(), puzzle.clues()), self.PUZZLE[1:])

    def test_what_is_told_is_the_askers_own(self):
        puzzle = Puzzle(*self.PUZZLE)
        for masks in ([7, 7, 7, 7], [7, 1, 7, 7], [2, 0, 2, 2]):
            told = think(puzzle, masks, WORDS)
            kept = copy.deepcopy(told)
            told[0][0] = 99
            for thought in told[1]:
                thought[4].append(99)
            told[1].append(99)
            self.assertEqual(think(puzzle, masks, WORDS), kept)
            self.assertNotIn(99, masks)
        first = next_thought(puzzle, [3, 3, 7, 1], ["only"])
        self.assertEqual(first, ("only", 2, 1, 1, [3]))
        first[4].append(99)
        self.assertEqual(next_thought(puzzle, [3, 3, 7, 1], ["only"]), ("only", 2, 1, 1, [3]))

    def test_masks_told_are_not_those_handed_in(self):
        puzzle = Puzzle((1, 2, 2), [], [0, 0])
        masks = [3, 3]
        told = think(puzzle, masks, WORDS)[0]
        masks[0] = 1
        self.assertEqual(told, [3, 3])


if __name__ == "__main__":
    unittest.main()

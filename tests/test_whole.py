"""What is promised over the whole program (points 2 and 3): texts, solving, books, making and moves together."""

import random
import unittest

from cluemaker.books import follow, let_by
from cluemaker.desk import Desk
from cluemaker.hints import hint, wrong
from cluemaker.maker import least, taken
from cluemaker.moves import moved, moved_cells, moved_filling
from cluemaker.needed import needed
from cluemaker.solver import solve
from cluemaker.texts import read_book, read_puzzle, show_book, show_puzzle
from cluemaker.thinking import KINDS, think
from tests.making import all_answers, full_of, puzzle_by

BIG = [
    "4 4 4 | unlike 0 1 2 3; unlike 4 5 6 7; unlike 8 9 10 11; unlike 12 13 14 15; unlike 0 4 8 12; unlike 1 5 9 13; "
    "unlike 2 6 10 14; unlike 3 7 11 15 | 1.../..3./.4../...2",
    "4 4 2 | ring 1; nosquare 2; count 4 2 5 6 9 10 | ..../..../..../....",
    "4 4 2 | joined 1; joined 2; nosquare 1; nosquare 2; count 8 1 0 1 2 3 4 5 6 7 8 9 10 11 12 13 14 15 | "
    "1.../..../..../...2",
    "2 6 6 | rising 0 1 2 3 4 5; seen 1 6 7 8 9 10 11; unlike 6 7 8 9 10 11; sum 7 0 6 | ....../......",
    "4 4 6 |  | ..../..../..../....",
    "3 5 3 | rising 0 5 10; unlike 1 6 11; sum 9 2 7 12; unlike 0 1; unlike 5 6; unlike 10 11 | ...../...../.....",
]

KINDS_BY_RULE = {"unlike": ["only", "place", "pair"], "sum": ["sum"], "rising": ["step"], "seen": [],
                 "count": ["count"], "joined": ["reach"], "nosquare": ["square"], "ring": ["reach", "turn"]}
MANY_MORE = {"only": [1], "place": [1], "pair": [2], "square": [1], "reach": [1, 2], "turn": [0, 1], "clue": [0],
             "sum": [0], "step": [0], "count": [0], "ways": [0]}


def signs_left(masks):
    return [[sign for sign in range(1, 7) if mask >> (sign - 1) & 1] for mask in masks]


class Solved(unittest.TestCase):
    def followed(self, puzzle, book):
        return signs_left(follow(puzzle, read_book(show_book(book))))

    def asked(self, text):
        """Whether what solving tells of the puzzle with this text holds, as its words say; its first word is told."""
        puzzle = read_puzzle(text)
        self.assertEqual(show_puzzle(puzzle), text)
        told = solve(puzzle)
        if told[0] == "one":
            self.assertIs(puzzle.meets(told[1]), True)
            self.assertEqual(self.followed(puzzle, told[2]), [[sign] for sign in told[1]])
        elif told[0] == "two":
            self.assertNotEqual(told[1], told[2])
            self.assertEqual([puzzle.meets(told[1]), puzzle.meets(told[2])], [True, True])
        elif told[0] == "none":
            self.assertIn([], self.followed(puzzle, told[1]))
        else:
            self.assertEqual(told[0], "rests")
            self.assertEqual(self.followed(puzzle, told[2]), signs_left(told[1]))
        self.assertEqual(solve(read_puzzle(text)), told)
        return told[0]

    def test_by_chance(self):
        chance = random.Random(31)
        seen = {}
        for turn in range(250):
            puzzle = puzzle_by(chance)
            told = self.asked(show_puzzle(puzzle))
            many = len(all_answers(puzzle))
            if told != "rests":
                self.assertEqual(told, ["none", "one", "two"][min(many, 2)])
            seen[told] = seen.get(told, 0) + 1
        for told in ("one", "two", "none", "rests"):
            self.assertGreater(seen.get(told, 0), 5, seen)

    def test_big_ones(self):
        for text in BIG:
            self.asked(text)

    def test_by_a_desk(self):
        desk = Desk()
        chance = random.Random(32)
        for turn in range(60):
            desk.say("puzzle a " + show_puzzle(puzzle_by(chance)))
            told = desk.say("solve a")
            if told.startswith("two"):
                continue
            checked = desk.say("check a " + desk.say("book a"))
            if told == "rests":
                self.assertRegex(checked, r"\Aopen [1-9][0-9]*\Z")
            else:
                self.assertEqual(checked, told)


class NoAnswerIsStruck(unittest.TestCase):
    def thought_by(self, chance, puzzle, many):
        cell = chance.randrange(len(puzzle.clues()))
        sign = chance.randrange(1, puzzle.place()[2] + 1)
        rules = puzzle.rules()
        number = chance.randrange(len(rules)) if rules else 0
        kind = chance.choice(KINDS_BY_RULE[rules[number].name()] + ["ways"]) if rules else "clue"
        if many > 1 and chance.random() < 0.3:
            book = [self.thought_by(chance, puzzle, many - 1) for turn in range(chance.randrange(1, 4))]
            return ("suppose", 0, cell, sign, book)
        more = [chance.randrange(len(puzzle.clues())) for part in range(chance.choice(MANY_MORE[kind]))]
        return (kind, number, cell, sign, more)

    def test_whoever_wrote_the_thoughts(self):
        chance = random.Random(33)
        let = {}
        for turn in range(4000):
            puzzle = puzzle_by(chance)
            answers = all_answers(puzzle)
            if not answers:
                continue
            answer = chance.choice(answers)
            # less stands than from the start, but always the answer
            masks = [2 ** (sign - 1) | full & chance.choice([0, 0, 0, chance.randrange(64)])
                     for sign, full in zip(answer, full_of(puzzle))]
            for thought in read_book(show_book([self.thought_by(chance, puzzle, 3) for turn in range(20)])):
                if let_by(puzzle, masks, thought):
                    self.assertNotEqual(answer[thought[2]], thought[3], (puzzle.lines(), masks, thought))
                    let[thought[0]] = let.get(thought[0], 0) + 1
        for kind in KINDS + ("suppose",):
            self.assertGreater(let.get(kind, 0), 0, let)


class Made(unittest.TestCase):
    def test_a_puzzle_made_keeps_its_answer_and_no_clue_can_go(self):
        chance = random.Random(34)
        made = 0
        while made < 25:
            bare = puzzle_by(chance)
            answers = all_answers(bare)
            if not answers:
                continue
            puzzle = bare.clued(chance.choice(answers))
            order = chance.sample(range(len(puzzle.clues())), len(puzzle.clues()))
            clues, rests = taken(puzzle, order, list(KINDS))
            fewer = puzzle.clued(clues)
            self.assertEqual(all_answers(fewer), [puzzle.clues()])
            self.assertEqual([cell for cell, masks in rests], [cell for cell, clue in enumerate(clues) if clue])
            self.assertEqual(solve(fewer)[:2], ("one", puzzle.clues()))
            self.assertIsNotNone(needed(fewer))
            for cell, masks in rests:
                self.assertNotEqual(len(sum(signs_left(masks), [])), len(clues))
            made += 1


class MovedAlong(unittest.TestCase):
    def test_thinking_and_solving(self):
        chance = random.Random(35)
        for turn in range(80):
            puzzle = puzzle_by(chance)
            signs = list(range(1, puzzle.place()[2] + 1))
            if not any(rule.reckons() for rule in puzzle.rules()):
                chance.shuffle(signs)
            move = chance.randrange(8)
            there = moved(puzzle, move, signs)
            left = signs_left(think(puzzle, full_of(puzzle), list(KINDS))[0])
            left_there = signs_left(think(there, full_of(there), list(KINDS))[0])
            if [] in left:
                self.assertIn([], left_there)
            else:
                for cell, place in enumerate(moved_cells(puzzle.place(), move)):
                    self.assertEqual(sorted(signs[sign - 1] for sign in left[cell]), left_there[place])
            told = solve(puzzle)
            self.assertEqual(solve(there)[0], told[0])
            if told[0] == "one":
                self.assertEqual(solve(there)[1], moved_filling(puzzle.place(), told[1], move, signs))


class Own(unittest.TestCase):
    def emptied(self, told):
        """All lists within what is told, emptied."""
        if isinstance(told, (list, tuple)):
            for part in list(told):
                self.emptied(part)
        if isinstance(told, list):
            told.clear()

    def test_told_alike_again_whatever_is_done_to_what_was_told(self):
        chance = random.Random(36)
        for turn in range(40):
            puzzle = puzzle_by(chance)
            entries = [chance.choice([0, sign]) for sign in (all_answers(puzzle) or [puzzle.clues()])[0]]
            order = list(range(len(entries)))
            asks = [lambda: solve(puzzle), lambda: needed(puzzle), lambda: hint(puzzle, entries),
                    lambda: puzzle.lines(), lambda: wrong(puzzle, entries, list(KINDS)),
                    lambda: taken(puzzle, order, list(KINDS)), lambda: think(puzzle, full_of(puzzle), list(KINDS)),
                    lambda: puzzle.clues(), lambda: read_book("suppose 0 0 1 (only 0 1 1 0)"), lambda: least(puzzle)]
            if solve(puzzle)[0] != "one":
                asks.pop()
            before = [repr(ask()) for ask in asks]
            for ask in asks:
                self.emptied(ask())
            self.assertEqual([repr(ask()) for ask in asks], before)
            self.assertEqual(order, list(range(len(entries))))


if __name__ == "__main__":
    unittest.main()

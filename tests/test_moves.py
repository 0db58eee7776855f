"""Moves of floors, cells, fillings and puzzles (point 25)."""

import itertools
import random
import unittest

from cluemaker.errors import ClueError, NoMove
from cluemaker.floors import beside
from cluemaker.moves import moved, moved_cells, moved_filling, moved_floor
from cluemaker.puzzles import Puzzle
from tests.making import all_answers, puzzle_by

SIZES = [(high, wide) for high in range(1, 7) for wide in range(1, 7) if high * wide <= 16]
NO_MOVES = [-1, -8, 8, 9, 12, 10 ** 59, -10 ** 59, True, False, None, "0", [0]]
# none of these has each of the signs 1, 2 and 3 once
NO_EXCHANGES = [[], [1], [1, 2], [2, 1], [1, 2, 2], [1, 1, 1], [0, 1, 2], [2, 3, 4], [1, 2, 3, 4], [1, 2, 3, 1],
                [-1, 2, 3], [1, 2, 10 ** 59], [1, 2, 3] * 100, [True, 2, 3], [1, 2, None], [1, 2, "3"],
                ["1", "2", "3"], (1, 2, 3), "123", 0, True]


def grid_of(floor, values):
    return [values[row * floor[1]:(row + 1) * floor[1]] for row in range(floor[0])]


def grid_moved(grid, move):
    """The same as the moves, told of rows in the place of cells."""
    if move >= 4:
        grid = [list(reversed(row)) for row in grid]
    for turn in range(move % 4):
        grid = [list(column) for column in zip(*reversed(grid))]
    return grid


def told_apart(floor, move):
    """The moved floor, and for each cell where it goes."""
    grid = grid_moved(grid_of(floor, list(range(floor[0] * floor[1]))), move)
    cells = sum(grid, [])
    return (len(grid), len(grid[0]), floor[2]), [cells.index(cell) for cell in range(len(cells))]


def some_exchange(chance, signs):
    return chance.sample(range(1, signs + 1), signs)


class Refusing(unittest.TestCase):
    def refuse(self, asked, note):
        with self.assertRaises(ClueError, msg=note) as taken:
            asked()
        self.assertIs(type(taken.exception), NoMove, note)


class FloorsAndCells(Refusing):
    def test_told_by_hand(self):
        # 0 1 2
        # 3 4 5
        self.assertEqual([moved_floor((2, 3, 4), move) for move in range(8)], [(2, 3, 4), (3, 2, 4)] * 4)
        self.assertEqual(moved_cells((2, 3, 4), 0), [0, 1, 2, 3, 4, 5])
        self.assertEqual(moved_cells((2, 3, 4), 1), [1, 3, 5, 0, 2, 4])
        self.assertEqual(moved_cells((2, 3, 4), 2), [5, 4, 3, 2, 1, 0])
        self.assertEqual(moved_cells((2, 3, 4), 3), [4, 2, 0, 5, 3, 1])
        self.assertEqual(moved_cells((2, 3, 4), 4), [2, 1, 0, 5, 4, 3])
        self.assertEqual(moved_cells((2, 3, 4), 5), [5, 3, 1, 4, 2, 0])
        self.assertEqual(moved_cells((2, 3, 4), 6), [3, 4, 5, 0, 1, 2])
        self.assertEqual(moved_cells((2, 3, 4), 7), [0, 2, 4, 1, 3, 5])

    def test_the_upper_left_corner_goes_to_the_upper_right_one(self):
        for high, wide in SIZES:
            self.assertEqual(moved_cells((high, wide, 1), 1)[0], high - 1)

    def test_all_sizes_and_moves(self):
        for high, wide in SIZES:
            for signs in range(1, 7):
                for move in range(8):
                    floor = (high, wide, signs)
                    told = moved_floor(floor, move), moved_cells(floor, move)
                    self.assertEqual(told, told_apart(floor, move), (floor, move))
                    self.assertIs(type(told[0]), tuple)
                    self.assertIs(type(told[1]), list)

    def test_each_cell_once_and_neighbours_stay_neighbours(self):
        for high, wide in SIZES:
            floor = (high, wide, 2)
            for move in range(8):
                cells = moved_cells(floor, move)
                self.assertEqual(sorted(cells), list(range(high * wide)))
                for cell in range(high * wide):
                    there = beside(moved_floor(floor, move), cells[cell])
                    self.assertEqual(sorted(cells[other] for other in beside(floor, cell)), there, (floor, move))

    def test_all_moves_of_a_square_are_unlike(self):
        for side in (2, 3, 4):
            self.assertEqual(len({tuple(moved_cells((side, side, 1), move)) for move in range(8)}), 8)

    def test_refused(self):
        for floor in ((2, 3, 4), (1, 1, 1), (4, 4, 6)):
            for move in NO_MOVES:
                self.refuse(lambda: moved_floor(floor, move), move)
                self.refuse(lambda: moved_cells(floor, move), move)

    def test_what_is_told_may_change(self):
        moved_cells((2, 2, 2), 1).clear()
        moved_cells((2, 2, 2), 1)[0] = 3
        self.assertEqual(moved_cells((2, 2, 2), 1), [1, 3, 0, 2])


class Fillings(Refusing):
    def test_told_by_hand(self):
        filling = [1, 2, 3, 0, 3, 2]
        self.assertEqual(moved_filling((2, 3, 3), filling, 0), [1, 2, 3, 0, 3, 2])
        self.assertEqual(moved_filling((2, 3, 3), filling, 1), [0, 1, 3, 2, 2, 3])
        self.assertEqual(moved_filling((2, 3, 3), filling, 4), [3, 2, 1, 2, 3, 0])
        self.assertEqual(moved_filling((2, 3, 3), filling, 0, [2, 3, 1]), [2, 3, 1, 0, 1, 3])
        self.assertEqual(moved_filling((2, 3, 3), filling, 1, [2, 3, 1]), [0, 2, 1, 3, 3, 1])
        self.assertEqual(moved_filling((2, 3, 3), filling, 4, signs=[3, 2, 1]), [1, 2, 3, 2, 1, 0])

    def test_all_sizes_and_moves(self):
        chance = random.Random(251)
        for high, wide in SIZES:
            for move in range(8):
                floor = (high, wide, chance.randrange(1, 7))
                signs = some_exchange(chance, floor[2])
                filling = [chance.randrange(floor[2] + 1) for cell in range(high * wide)]
                expected = sum(grid_moved(grid_of(floor, filling), move), [])
                self.assertEqual(moved_filling(floor, filling, move), expected)
                self.assertEqual(moved_filling(floor, filling, move, None), expected)
                self.assertEqual(moved_filling(floor, filling, move, list(range(1, floor[2] + 1))), expected)
                self.assertEqual(moved_filling(floor, filling, move, signs), [([0] + signs)[sign] for sign in expected])

    def test_nothing_told_stays_so(self):
        for signs in itertools.permutations([1, 2, 3]):
            self.assertEqual(moved_filling((2, 2, 3), [0] * 4, 5, list(signs)), [0] * 4)

    def test_refused(self):
        for move in NO_MOVES:
            self.refuse(lambda: moved_filling((1, 2, 3), [1, 0], move), move)
            self.refuse(lambda: moved_filling((1, 2, 3), [1, 0], move, [1, 2, 3]), move)
            self.refuse(lambda: moved_filling((1, 2, 3), [1, 0], move, [1, 2]), move)
        for signs in NO_EXCHANGES:
            for move in range(8):
                self.refuse(lambda: moved_filling((1, 2, 3), [1, 0], move, signs), signs)
                self.refuse(lambda: moved_filling((1, 2, 3), [0, 0], move, signs), signs)

    def test_what_is_handed_in_and_told_is_the_askers_own(self):
        filling = [1, 2, 0, 3]
        signs = [3, 1, 2]
        told = moved_filling((2, 2, 3), filling, 0, signs)
        self.assertEqual((filling, signs), ([1, 2, 0, 3], [3, 1, 2]))
        self.assertEqual(told, [3, 1, 0, 2])
        told[0] = 1
        same = moved_filling((2, 2, 3), filling, 0)
        same[1] = 3
        self.assertEqual((filling, signs), ([1, 2, 0, 3], [3, 1, 2]))
        filling[0] = 2
        signs[0] = 1
        self.assertEqual(told, [1, 1, 0, 2])
        self.assertEqual(same, [1, 3, 0, 3])
        self.assertEqual(moved_filling((2, 2, 3), [1, 2, 0, 3], 0, [3, 1, 2]), [3, 1, 0, 2])


def words_moved(line, cells, signs):
    """A row of words, moved word by word."""
    words = line.split(" ")
    ahead = {"sum": 1, "seen": 1, "count": 2}.get(words[0], 0)
    if words[0] in ("joined", "nosquare", "ring"):
        return f"{words[0]} {signs[int(words[1]) - 1]}"
    head = words[1:1 + ahead]
    if words[0] == "count":
        head[1] = str(signs[int(head[1]) - 1])
    return " ".join([words[0]] + head + [str(cells[int(word)]) for word in words[1 + ahead:]])


class Puzzles(Refusing):
    def parts(self, puzzle):
        return puzzle.place(), puzzle.lines(), puzzle.clues()

    def test_told_by_hand(self):
        lines = ["unlike 0 1", "count 2 3 5 0 2", "joined 1", "ring 2", "nosquare 3"]
        puzzle = Puzzle((2, 3, 3), lines, [1, 0, 0, 0, 2, 0])
        self.assertEqual(self.parts(moved(puzzle, 0)), self.parts(puzzle))
        self.assertEqual(self.parts(moved(puzzle, 1)), (
            (3, 2, 3), ["unlike 1 3", "count 2 3 4 1 5", "joined 1", "ring 2", "nosquare 3"], [0, 1, 2, 0, 0, 0]))
        self.assertEqual(self.parts(moved(puzzle, 4, [2, 3, 1])), (
            (2, 3, 3), ["unlike 2 1", "count 2 1 3 2 0", "joined 2", "ring 3", "nosquare 1"], [0, 0, 2, 0, 3, 0]))

    def test_numbers_are_no_signs(self):
        puzzle = Puzzle((1, 3, 3), ["sum 3 0 1", "seen 1 2 0", "rising 2 0 1"], [0, 2, 0])
        told = moved(puzzle, 2)
        self.assertEqual(self.parts(told), ((1, 3, 3), ["sum 3 2 1", "seen 1 0 2", "rising 0 2 1"], [0, 2, 0]))
        puzzle = Puzzle((1, 3, 3), ["count 3 1 0 1 2"], [0, 2, 0])
        self.assertEqual(moved(puzzle, 0, [3, 2, 1]).lines(), ["count 3 3 0 1 2"])

    def test_by_chance(self):
        chance = random.Random(252)
        for turn in range(300):
            puzzle = puzzle_by(chance)
            floor = puzzle.place()
            move = chance.randrange(8)
            signs = list(range(1, floor[2] + 1))
            if not any(line.split()[0] in ("sum", "rising", "seen") for line in puzzle.lines()):
                signs = some_exchange(chance, floor[2])
            told = moved(puzzle, move, signs)
            self.assertIsInstance(told, Puzzle)
            place, cells = told_apart(floor, move)
            self.assertEqual(told.place(), place)
            self.assertEqual(told.lines(), [words_moved(line, cells, signs) for line in puzzle.lines()])
            self.assertEqual(told.clues(), moved_filling(floor, puzzle.clues(), move, signs))

    def test_a_filling_is_an_answer_just_where_the_moved_one_is(self):
        chance = random.Random(253)
        exchanged = 0
        for turn in range(120):
            puzzle = puzzle_by(chance)
            floor = puzzle.place()
            move = chance.randrange(8)
            signs = None
            if not any(rule.reckons() for rule in puzzle.rules()):
                signs = some_exchange(chance, floor[2])
                exchanged += 1
            told = moved(puzzle, move, signs)
            there = sorted(moved_filling(floor, answer, move, signs) for answer in all_answers(puzzle))
            self.assertEqual(there, all_answers(told), (puzzle.lines(), move, signs))
            filling = [chance.randrange(1, floor[2] + 1) for clue in puzzle.clues()]
            self.assertIs(told.meets(moved_filling(floor, filling, move, signs)), puzzle.meets(filling))
        self.assertGreater(exchanged, 20)

    def test_no_move(self):
        for puzzle in (Puzzle((2, 2, 3), [], [0] * 4), Puzzle((2, 2, 3), ["sum 3 0 1"], [0] * 4)):
            for move in NO_MOVES:
                self.refuse(lambda: moved(puzzle, move), move)
                self.refuse(lambda: moved(puzzle, move, [1, 2, 3]), move)
                self.refuse(lambda: moved(puzzle, move, [2, 1]), move)

    def test_no_exchange(self):
        for lines in ([], ["unlike 0 1", "joined 2"], ["sum 3 0 1"]):
            puzzle = Puzzle((2, 2, 3), lines, [1, 0, 0, 0])
            for signs in NO_EXCHANGES:
                for move in range(8):
                    self.refuse(lambda: moved(puzzle, move, signs), (lines, signs))

    def test_no_sign_becomes_another_where_a_rule_reckons(self):
        for line in ("sum 3 0 1", "sum 0 3", "rising 0", "rising 1 0", "seen 1 0", "seen 2 0 1"):
            for lines in ([line], ["unlike 0 1", line], [line, "joined 1", "unlike 0 1"]):
                puzzle = Puzzle((2, 2, 3), lines, [0] * 4)
                for signs in itertools.permutations([1, 2, 3]):
                    for move in range(8):
                        if signs == (1, 2, 3):
                            told = moved(puzzle, move, list(signs))
                            self.assertEqual(self.parts(told), self.parts(moved(puzzle, move)))
                            self.assertEqual(self.parts(told), self.parts(moved(puzzle, move, None)))
                        else:
                            self.refuse(lambda: moved(puzzle, move, list(signs)), (line, signs))

    def test_signs_are_exchanged_where_none_reckons(self):
        for line in ("unlike 0 1", "count 1 2 0 1", "joined 2", "nosquare 2", "ring 2"):
            for signs in itertools.permutations([1, 2, 3]):
                told = moved(Puzzle((2, 2, 3), [line], [1, 2, 3, 0]), 0, list(signs))
                self.assertEqual(told.lines(), [words_moved(line, [0, 1, 2, 3], signs)])
                self.assertEqual(told.clues(), list(signs) + [0])

    def test_twelve_rules_sixteen_cells_six_signs(self):
        lines = ["unlike " + " ".join(str(cell) for cell in reversed(range(16)))] + ["joined 6"] * 11
        puzzle = Puzzle((4, 4, 6), lines, [6] * 16)
        told = moved(puzzle, 2, [6, 5, 4, 3, 2, 1])
        expected = ["unlike " + " ".join(str(cell) for cell in range(16))] + ["joined 1"] * 11
        self.assertEqual(self.parts(told), ((4, 4, 6), expected, [1] * 16))

    def test_what_is_handed_in_and_told_is_the_askers_own(self):
        lines = ["unlike 0 1", "joined 2"]
        puzzle = Puzzle((1, 2, 2), lines, [1, 0])
        signs = [2, 1]
        told = moved(puzzle, 2, signs)
        self.assertEqual(signs, [2, 1])
        signs.reverse()
        for one in (told, moved(puzzle, 0), moved(puzzle, 0, [1, 2])):
            one.lines().clear()
            one.clues().clear()
            one.rules().clear()
        self.assertEqual(self.parts(told), ((1, 2, 2), ["unlike 1 0", "joined 1"], [0, 2]))
        self.assertEqual(self.parts(puzzle), ((1, 2, 2), lines, [1, 0]))
        self.assertEqual(self.parts(moved(puzzle, 2, [2, 1])), self.parts(told))


if __name__ == "__main__":
    unittest.main()

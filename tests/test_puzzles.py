import itertools
import unittest

from cluemaker.errors import ClueError, NoFloor, NoPuzzle, NoRule
from cluemaker.puzzles import Puzzle
from cluemaker.rules import Rule

FLOOR = (2, 2, 3)
LINES = ["unlike 0 1", "sum 4 0 2", "rising 2 3"]
CLUES = [0, 0, 1, 0]
BAD_FLOORS = [
    (0, 2, 3), (2, 7, 3), (2, 2, 0), (2, 2, 7), (6, 3, 2), (-1, -1, 1), (2, 2), (2, 2, 3, 4), (), [2, 2, 3], None, "223",
    4, (True, 2, 3), (2, 2, True), ("2", 2, 3), (None, 2, 3), (10 ** 60 - 1, 1, 1),
]
BAD_LINES = ["", "unlike", "unlike 4", "unlike 0 0", "sum 100 0", "joined 4", "unlike 0  1", "no rule", None, 3, ["unlike 0"]]
BAD_CLUES = [
    [], [0, 0, 0], [0, 0, 0, 0, 0], [0, 0, 4, 0], [0, -1, 0, 0], [10 ** 60 - 1, 0, 0, 0], [0, 0, 0, True],
    [False, 0, 0, 0], ["1", 0, 0, 0], [None, 0, 0, 0], [[1], 0, 0, 0], None, "../..", 0, (0, 0, 0, 0), {},
]


class Told(unittest.TestCase):
    def test_what_it_was_made_of(self):
        puzzle = Puzzle(FLOOR, LINES, CLUES)
        self.assertEqual(puzzle.place(), (2, 2, 3))
        self.assertIs(type(puzzle.place()), tuple)
        self.assertEqual(puzzle.lines(), ["unlike 0 1", "sum 4 0 2", "rising 2 3"])
        self.assertEqual(puzzle.clues(), [0, 0, 1, 0])

    def test_its_rules(self):
        rules = Puzzle(FLOOR, LINES + ["joined 2", "sum 4 0 2"], CLUES).rules()
        self.assertIs(type(rules), list)
        for rule in rules:
            self.assertIsInstance(rule, Rule)
        self.assertEqual([rule.line() for rule in rules], LINES + ["joined 2", "sum 4 0 2"])
        self.assertEqual([rule.spots() for rule in rules], [[0, 1], [0, 2], [2, 3], [0, 1, 2, 3], [0, 2]])

    def test_without_rules_and_with_twelve(self):
        self.assertEqual(Puzzle(FLOOR, [], CLUES).lines(), [])
        self.assertEqual(Puzzle(FLOOR, [], CLUES).rules(), [])
        self.assertEqual(Puzzle(FLOOR, ["joined 1"] * 12, CLUES).lines(), ["joined 1"] * 12)

    def test_clues_of_all_signs(self):
        self.assertEqual(Puzzle((1, 3, 6), [], [6, 1, 0]).clues(), [6, 1, 0])
        self.assertEqual(Puzzle((4, 4, 1), [], [1] * 16).clues(), [1] * 16)


class Meets(unittest.TestCase):
    def test_every_filling(self):
        puzzle = Puzzle(FLOOR, LINES, CLUES)
        told = []
        for filling in itertools.product(range(4), repeat=4):
            a, b, c, d = filling
            wanted = 0 not in filling and c == 1 and a != b and a + c == 4 and c < d
            self.assertIs(puzzle.meets(list(filling)), wanted, filling)
            if wanted:
                told.append(filling)
        self.assertEqual(told, [(3, 1, 1, 2), (3, 1, 1, 3), (3, 2, 1, 2), (3, 2, 1, 3)])

    def test_without_rules_and_clues_every_full_filling_is_an_answer(self):
        puzzle = Puzzle((1, 2, 2), [], [0, 0])
        for filling in itertools.product(range(-1, 4), repeat=2):
            self.assertIs(puzzle.meets(list(filling)), all(1 <= sign <= 2 for sign in filling), filling)

    def test_a_rule_or_a_clue_alone_that_is_broken(self):
        self.assertIs(Puzzle((1, 2, 2), ["unlike 0 1"], [0, 0]).meets([1, 2]), True)
        self.assertIs(Puzzle((1, 2, 2), ["unlike 0 1"], [0, 0]).meets([2, 2]), False)
        self.assertIs(Puzzle((1, 2, 2), ["unlike 0 1"], [1, 0]).meets([1, 2]), True)
        self.assertIs(Puzzle((1, 2, 2), ["unlike 0 1"], [2, 0]).meets([1, 2]), False)
        self.assertIs(Puzzle((1, 2, 2), ["unlike 0 1"], [0, 1]).meets([1, 2]), False)
        self.assertIs(Puzzle((1, 2, 2), ["unlike 0", "sum 4 0 1"], [0, 0]).meets([1, 2]), False)

    def test_what_is_no_full_filling(self):
        puzzle = Puzzle((1, 2, 2), [], [0, 0])
        for filling in ([], [1], [1, 1, 1], [1, 0], [0, 0], [1, 3], [10 ** 60 - 1, 1], [-1, 1], [True, 1]):
            self.assertIs(puzzle.meets(filling), False, filling)


class Refused(unittest.TestCase):
    def refuse(self, error, ask):
        with self.assertRaises(ClueError) as taken:
            ask()
        self.assertIs(type(taken.exception), error)

    def test_floors(self):
        for floor in BAD_FLOORS:
            self.refuse(NoFloor, lambda: Puzzle(floor, LINES, CLUES))

    def test_too_many_rows(self):
        for many in (13, 14, 400):
            self.refuse(NoPuzzle, lambda: Puzzle(FLOOR, ["joined 1"] * many, CLUES))

    def test_rows_that_are_no_rules(self):
        for line in BAD_LINES:
            self.refuse(NoRule, lambda: Puzzle(FLOOR, [line], CLUES))
            self.refuse(NoRule, lambda: Puzzle(FLOOR, LINES + [line], CLUES))
            self.refuse(NoRule, lambda: Puzzle(FLOOR, [line] + LINES, CLUES))

    def test_clues(self):
        for clues in BAD_CLUES:
            self.refuse(NoPuzzle, lambda: Puzzle(FLOOR, LINES, clues))
            self.refuse(NoPuzzle, lambda: Puzzle(FLOOR, [], clues))

    def test_the_floor_goes_first(self):
        for floor in BAD_FLOORS:
            self.refuse(NoFloor, lambda: Puzzle(floor, ["joined 1"] * 13, CLUES))
            self.refuse(NoFloor, lambda: Puzzle(floor, ["no rule"], CLUES))
            self.refuse(NoFloor, lambda: Puzzle(floor, LINES, [4]))

    def test_too_many_rows_go_ahead_of_a_row_that_is_no_rule(self):
        self.refuse(NoPuzzle, lambda: Puzzle(FLOOR, ["no rule"] * 13, CLUES))
        self.refuse(NoPuzzle, lambda: Puzzle(FLOOR, [None] + ["joined 1"] * 12, [4]))

    def test_a_row_that_is_no_rule_goes_ahead_of_clues(self):
        for clues in BAD_CLUES:
            self.refuse(NoRule, lambda: Puzzle(FLOOR, LINES + ["no rule"], clues))
            self.refuse(NoRule, lambda: Puzzle(FLOOR, ["joined 1"] * 11 + ["no rule"], clues))


class Clued(unittest.TestCase):
    def test_same_floor_and_rules_other_clues(self):
        puzzle = Puzzle(FLOOR, LINES, CLUES)
        other = puzzle.clued([3, 2, 0, 0])
        self.assertIsInstance(other, Puzzle)
        self.assertEqual(other.place(), FLOOR)
        self.assertEqual(other.lines(), LINES)
        self.assertEqual([rule.line() for rule in other.rules()], LINES)
        self.assertEqual(other.clues(), [3, 2, 0, 0])
        self.assertIs(other.meets([3, 2, 1, 2]), True)
        self.assertIs(other.meets([3, 1, 1, 2]), False)
        self.assertEqual(puzzle.clues(), CLUES)
        self.assertIs(puzzle.meets([3, 1, 1, 2]), True)

    def test_refused(self):
        puzzle = Puzzle(FLOOR, LINES, CLUES)
        for clues in BAD_CLUES:
            with self.assertRaises(ClueError, msg=clues) as taken:
                puzzle.clued(clues)
            self.assertIs(type(taken.exception), NoPuzzle)
        self.assertEqual(puzzle.clues(), CLUES)

    def test_handed_in_clues_may_change(self):
        clues = [3, 0, 0, 0]
        other = Puzzle(FLOOR, LINES, CLUES).clued(clues)
        self.assertEqual(clues, [3, 0, 0, 0])
        clues[0] = 1
        self.assertEqual(other.clues(), [3, 0, 0, 0])
        self.assertIs(other.meets([3, 2, 1, 2]), True)


class OwnAnswers(unittest.TestCase):
    def check(self, puzzle):
        self.assertEqual(puzzle.place(), FLOOR)
        self.assertEqual(puzzle.lines(), LINES)
        self.assertEqual(puzzle.clues(), CLUES)
        self.assertEqual([rule.line() for rule in puzzle.rules()], LINES)
        self.assertEqual([rule.spots() for rule in puzzle.rules()], [[0, 1], [0, 2], [2, 3]])
        self.assertIs(puzzle.meets([3, 2, 1, 2]), True)
        self.assertIs(puzzle.meets([2, 2, 2, 2]), False)

    def test_what_was_handed_in_may_change(self):
        lines = list(LINES)
        clues = list(CLUES)
        puzzle = Puzzle(FLOOR, lines, clues)
        self.assertEqual((lines, clues), (LINES, CLUES))
        lines[0] = "joined 1"
        lines.append("no rule")
        clues[2] = 3
        clues.pop()
        self.check(puzzle)

    def test_what_is_told_may_change(self):
        puzzle = Puzzle(FLOOR, LINES, CLUES)
        puzzle.lines()[0] = "joined 1"
        puzzle.lines().append("no rule")
        puzzle.clues()[2] = 3
        puzzle.clues().clear()
        puzzle.rules().reverse()
        puzzle.rules().pop()
        puzzle.rules()[0].spots().clear()
        self.check(puzzle)

    def test_an_answer_told_stays(self):
        puzzle = Puzzle(FLOOR, LINES, CLUES)
        told = (puzzle.lines(), puzzle.clues())
        puzzle.clued([1, 1, 1, 1])
        puzzle.meets([1, 1, 1, 1])
        self.assertEqual(told, (LINES, CLUES))
        self.check(puzzle)

    def test_the_filling_handed_in_stays(self):
        filling = [3, 2, 1, 2]
        Puzzle(FLOOR, LINES, CLUES).meets(filling)
        self.assertEqual(filling, [3, 2, 1, 2])


if __name__ == "__main__":
    unittest.main()

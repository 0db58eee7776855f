"""The plain seeker (points 15 and 16), against all fillings gone through one by one."""

import itertools
import random
import unittest

from cluemaker.errors import ClueError, TooMany
from cluemaker.puzzles import Puzzle
from cluemaker.seeker import answers, filled

PUZZLES = [
    ((1, 1, 1), [], [0]),
    ((1, 1, 1), ["sum 2 0"], [0]),
    ((1, 1, 6), ["sum 5 0"], [0]),
    ((1, 3, 3), ["unlike 0 1 2", "rising 0 1"], [0, 0, 0]),
    ((1, 3, 3), ["unlike 0 1 2", "rising 0 1"], [0, 0, 2]),
    ((1, 3, 3), ["unlike 0 1 2", "rising 0 1"], [3, 0, 0]),
    ((2, 2, 3), ["sum 7 0 1 2 3", "count 2 1 3 0 1", "unlike 1 3"], [0, 0, 0, 1]),
    ((2, 2, 4), ["unlike 3 2 1 0", "seen 2 0 1 2"], [0, 0, 0, 0]),
    ((2, 3, 2), ["ring 1", "nosquare 2"], [0] * 6),
    ((3, 3, 2), ["joined 1", "nosquare 1", "joined 2"], [0] * 9),
    ((3, 3, 2), ["ring 1"], [1] + [0] * 8),
    ((2, 2, 5), [], [0, 3, 0, 5]),
    ((1, 4, 2), ["unlike 0 1", "unlike 1 2", "unlike 0 2"], [0, 0, 0, 0]),
]


def told_signs(floor, clues):
    return [[clue] if clue else list(range(1, floor[2] + 1)) for clue in clues]


def is_answer(floor, lines, clues, filling):
    rules = Puzzle(floor, lines, clues).rules()
    return all(rule.holds(filling) for rule in rules)


def all_answers(floor, lines, clues):
    fillings = [list(filling) for filling in itertools.product(*told_signs(floor, clues))]
    return [filling for filling in fillings if is_answer(floor, lines, clues, filling)]


def come_to_first(floor, lines, clues, numbers):
    """Another telling of point 16: the least answer by how far each sign lies behind the one begun with."""
    found = all_answers(floor, lines, clues)
    steps = [[(sign - 1 - number) % floor[2] if clue == 0 else 0 for clue, sign, number in zip(clues, filling, numbers)]
             for filling in found]
    return found[steps.index(min(steps))] if found else None


class Unasked(Puzzle):
    """A puzzle that must not be asked whether a filling is an answer."""

    def meets(self, filling):
        raise AssertionError("this is work")


class Answers(unittest.TestCase):
    def test_all_of_them(self):
        many = []
        for floor, lines, clues in PUZZLES:
            told = all_answers(floor, lines, clues)
            many.append(len(told))
            self.assertEqual(answers(Puzzle(floor, lines, clues), 2000), told, lines)
            self.assertEqual(told, sorted(told))
        for few in (0, 1, 2, 3):
            self.assertIn(few, [min(number, 3) for number in many])

    def test_the_first_so_many(self):
        for floor, lines, clues in PUZZLES:
            told = all_answers(floor, lines, clues)
            puzzle = Puzzle(floor, lines, clues)
            for most in list(range(1, 12)) + [len(told) + 1, 10 ** 59, 10 ** 60 - 1]:
                self.assertEqual(answers(puzzle, most), told[:most])
                self.assertEqual(answers(puzzle, most=most), told[:most])

    def test_two_where_it_is_not_told(self):
        for floor, lines, clues in PUZZLES:
            self.assertEqual(answers(Puzzle(floor, lines, clues)), all_answers(floor, lines, clues)[:2])
        self.assertEqual(answers(Puzzle((1, 2, 3), [], [0, 2])), [[1, 2], [2, 2]])
        self.assertEqual(answers(Puzzle((1, 2, 3), ["sum 9 0"], [0, 2])), [])

    def test_clues_alone(self):
        self.assertEqual(answers(Puzzle((4, 4, 6), [], list(range(1, 7)) * 2 + [1, 2, 3, 4])),
                         [[1, 2, 3, 4, 5, 6] * 2 + [1, 2, 3, 4]])
        self.assertEqual(answers(Puzzle((1, 2, 6), ["unlike 0 1"], [3, 3])), [])


# a floor, the number of its cells without a clue, and whether that is too many
BOUNDS = [
    ((1, 6, 4), 5, False), ((2, 3, 4), 6, True),
    ((4, 4, 2), 10, False), ((4, 4, 2), 11, True), ((4, 4, 2), 16, True), ((4, 4, 2), 0, False),
    ((4, 4, 1), 16, False), ((4, 4, 3), 6, False), ((4, 4, 3), 7, True),
    ((4, 4, 5), 4, False), ((4, 4, 5), 5, True), ((4, 4, 6), 3, False), ((4, 4, 6), 4, True), ((4, 4, 6), 16, True),
]


def clues_with(floor, many):
    cells = floor[0] * floor[1]
    return [0] * many + [1] * (cells - many)


class Bounds(unittest.TestCase):
    def test_too_many_floors(self):
        for floor, many, too_many in BOUNDS:
            clues = clues_with(floor, many)
            for there in (clues, clues[::-1]):
                puzzle = Puzzle(floor, [], there)
                if too_many:
                    with self.assertRaises(TooMany) as caught:
                        answers(puzzle)
                    self.assertIsInstance(caught.exception, ClueError)
                    with self.assertRaises(TooMany):
                        filled(puzzle, [0] * len(there))
                else:
                    self.assertEqual(answers(puzzle, 1), [[clue or 1 for clue in there]])
                    self.assertEqual(len(answers(puzzle, 9999)), floor[2] ** many)
                    self.assertEqual(filled(puzzle, [0] * len(there)), [clue or 1 for clue in there])

    def test_ahead_of_all_work(self):
        for floor, many, too_many in BOUNDS:
            puzzle = Unasked(floor, [], clues_with(floor, many))
            for ask in (lambda: answers(puzzle), lambda: answers(puzzle, 1), lambda: filled(puzzle, [0] * 16)):
                with self.assertRaises(TooMany if too_many else AssertionError):
                    ask()

    def test_rules_change_nothing_of_it(self):
        with self.assertRaises(TooMany):
            answers(Puzzle((1, 6, 4), ["sum 99 0"], [0] * 6))
        self.assertEqual(answers(Puzzle((1, 5, 4), ["sum 99 0"], [0] * 5)), [])


class Filled(unittest.TestCase):
    def test_by_numbers(self):
        puzzle = Puzzle((1, 3, 3), ["unlike 0 1 2", "rising 0 1"], [0, 0, 0])
        for numbers, filling in (([0, 0, 0], [1, 2, 3]), ([1, 0, 0], [2, 3, 1]), ([2, 0, 0], [1, 2, 3]),
                                 ([0, 2, 0], [1, 3, 2]), ([2, 2, 2], [1, 3, 2]), ([3, 5, 0], [1, 3, 2]),
                                 ([-2, 0, 0], [2, 3, 1]), ([-1, 0, 0], [1, 2, 3])):
            self.assertEqual(filled(puzzle, numbers), filling, numbers)

    def test_against_another_telling(self):
        chance = random.Random(16)
        for floor, lines, clues in PUZZLES:
            puzzle = Puzzle(floor, lines, clues)
            for turn in range(25):
                far = chance.choice([1, 6, 40, 10 ** 60])
                numbers = [chance.randrange(-far + 1, far) for clue in clues]
                self.assertEqual(filled(puzzle, numbers), come_to_first(floor, lines, clues, numbers), (lines, numbers))

    def test_only_the_rest_of_a_number_counts(self):
        puzzle = Puzzle((2, 2, 4), ["unlike 0 1", "unlike 2 3"], [0, 0, 0, 0])
        for numbers in itertools.product(range(4), repeat=4):
            told = filled(puzzle, list(numbers))
            for far in (-4, 4, 40, -4 * 10 ** 58, 4 * 10 ** 58):
                self.assertEqual(filled(puzzle, [number + far for number in numbers]), told)

    def test_each_answer_by_its_own_signs(self):
        for floor, lines, clues in PUZZLES:
            puzzle = Puzzle(floor, lines, clues)
            for answer in all_answers(floor, lines, clues):
                self.assertEqual(filled(puzzle, [sign - 1 for sign in answer]), answer)

    def test_a_clue_stays_whatever_its_number(self):
        puzzle = Puzzle((1, 2, 4), [], [3, 0])
        for number in range(-9, 9):
            self.assertEqual(filled(puzzle, [number, 1]), [3, 2])

    def test_none(self):
        puzzle = Puzzle((1, 3, 3), ["unlike 0 1 2", "rising 0 1"], [3, 0, 0])
        for numbers in itertools.product(range(3), repeat=3):
            self.assertIsNone(filled(puzzle, list(numbers)))


class Kept(unittest.TestCase):
    def test_what_is_handed_in_stays(self):
        numbers = [5, -1, 2]
        puzzle = Puzzle((1, 3, 3), ["unlike 0 1 2"], [0, 0, 2])
        filled(puzzle, numbers)
        answers(puzzle, 1)
        self.assertEqual(numbers, [5, -1, 2])
        self.assertEqual((puzzle.lines(), puzzle.clues()), (["unlike 0 1 2"], [0, 0, 2]))

    def test_what_is_told_is_the_askers_own(self):
        puzzle = Puzzle((1, 3, 3), ["unlike 0 1 2"], [0, 0, 2])
        told = answers(puzzle)
        told[0][0] = 9
        told.pop()
        self.assertEqual(answers(puzzle), [[1, 3, 2], [3, 1, 2]])
        told = filled(puzzle, [0, 0, 0])
        told[0] = 9
        self.assertEqual(filled(puzzle, [0, 0, 0]), [1, 3, 2])
        self.assertEqual(puzzle.clues(), [0, 0, 2])


if __name__ == "__main__":
    unittest.main()

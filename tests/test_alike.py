"""Forms, plain forms and puzzles alike (point 26)."""

import itertools
import random
import unittest

from cluemaker.alike import alike, form, plain
from cluemaker.errors import ClueError, TooMany
from cluemaker.moves import moved
from cluemaker.puzzles import Puzzle
from tests.making import puzzle_by


def reckons(puzzle):
    return any(line.split(" ")[0] in ("sum", "rising", "seen") for line in puzzle.lines())


def form_apart(puzzle):
    """The form, told once more from the words of the rows."""
    rows = []
    for line in puzzle.lines():
        words = line.split(" ")
        ahead = {"unlike": 1, "sum": 2, "count": 3}.get(words[0], len(words))
        rows.append(" ".join(words[:ahead] + sorted(words[ahead:], key=int)))
    return puzzle.place(), sorted(rows), puzzle.clues()


def all_moved(puzzle):
    """Tuples (move, signs, form) of all moves and exchanges, in their order."""
    signs = list(range(1, puzzle.place()[2] + 1))
    exchanges = [signs] if reckons(puzzle) else [list(order) for order in itertools.permutations(signs)]
    return [(move, order, form_apart(moved(puzzle, move, order))) for move in range(8) for order in exchanges]


def plain_apart(puzzle):
    return min(told[2] for told in all_moved(puzzle))


def alike_apart(one, other):
    sought = form_apart(other)
    return next((told[:2] for told in all_moved(one) if told[2] == sought), None)


def mixed(chance, puzzle):
    """The same puzzle with its rows, and the cells of some of them, in another order."""
    lines = []
    for line in puzzle.lines():
        words = line.split(" ")
        ahead = {"unlike": 1, "sum": 2, "count": 3}.get(words[0], len(words))
        lines.append(" ".join(words[:ahead] + chance.sample(words[ahead:], len(words) - ahead)))
    chance.shuffle(lines)
    return Puzzle(puzzle.place(), lines, puzzle.clues())


def some_moved(chance, puzzle):
    signs = list(range(1, puzzle.place()[2] + 1))
    if not reckons(puzzle):
        chance.shuffle(signs)
    return moved(puzzle, chance.randrange(8), signs)


class Form(unittest.TestCase):
    def test_told_by_hand(self):
        lines = ["unlike 2 10 1", "sum 30 3 11 2", "rising 5 3", "seen 1 4 2", "count 2 3 9 11 8", "ring 1", "joined 2",
                 "nosquare 3"]
        puzzle = Puzzle((3, 4, 6), lines, [0, 1] * 6)
        rows = ["count 2 3 8 9 11", "joined 2", "nosquare 3", "ring 1", "rising 5 3", "seen 1 4 2", "sum 30 2 3 11",
                "unlike 1 2 10"]
        self.assertEqual(form(puzzle), ((3, 4, 6), rows, [0, 1] * 6))

    def test_rows_are_sorted_as_texts(self):
        lines = ["unlike 2 1", "unlike 10 9", "unlike 0", "unlike 0", "sum 9 0", "sum 10 0"]
        rows = ["sum 10 0", "sum 9 0", "unlike 0", "unlike 0", "unlike 1 2", "unlike 9 10"]
        self.assertEqual(form(Puzzle((3, 4, 2), lines, [0] * 12))[1], rows)

    def test_without_rules(self):
        self.assertEqual(form(Puzzle((1, 1, 1), [], [0])), ((1, 1, 1), [], [0]))

    def test_kinds_of_what_is_told(self):
        puzzle = Puzzle((1, 2, 2), ["unlike 1 0"], [0, 2])
        for told in (form(puzzle), plain(puzzle)):
            self.assertIs(type(told), tuple)
            self.assertEqual([type(part) for part in told], [tuple, list, list])
            self.assertEqual([type(row) for row in told[1]], [str])

    def test_of_any_puzzle(self):
        for signs in range(1, 7):
            self.assertEqual(form(Puzzle((2, 1, signs), ["unlike 1 0"], [0, signs])),
                             ((2, 1, signs), ["unlike 0 1"], [0, signs]))

    def test_by_chance(self):
        chance = random.Random(261)
        for turn in range(300):
            puzzle = puzzle_by(chance)
            self.assertEqual(form(puzzle), form_apart(puzzle))
            self.assertEqual(form(mixed(chance, puzzle)), form(puzzle))


class Plain(unittest.TestCase):
    def test_told_by_hand(self):
        self.assertEqual(plain(Puzzle((2, 1, 3), [], [0, 3])), ((1, 2, 3), [], [0, 1]))
        self.assertEqual(plain(Puzzle((2, 1, 3), ["joined 2"], [0, 3])), ((1, 2, 3), ["joined 1"], [0, 2]))
        self.assertEqual(plain(Puzzle((1, 2, 3), ["rising 1 0"], [3, 0])), ((1, 2, 3), ["rising 0 1"], [0, 3]))
        self.assertEqual(plain(Puzzle((2, 2, 2), ["unlike 3 1"], [0, 0, 2, 0])),
                         ((2, 2, 2), ["unlike 0 1"], [0, 0, 0, 1]))

    def test_against_all_moves_and_exchanges(self):
        chance = random.Random(262)
        exchanged = 0
        for turn in range(150):
            puzzle = puzzle_by(chance)
            self.assertEqual(plain(puzzle), plain_apart(puzzle), puzzle.lines())
            self.assertEqual(plain(some_moved(chance, mixed(chance, puzzle))), plain(puzzle))
            exchanged += not reckons(puzzle)
        self.assertGreater(exchanged, 20)

    def test_a_plain_form_is_the_form_of_a_puzzle_alike(self):
        chance = random.Random(263)
        for turn in range(50):
            puzzle = puzzle_by(chance)
            floor, rows, clues = plain(puzzle)
            other = Puzzle(floor, rows, clues)
            self.assertEqual(form(other), (floor, rows, clues))
            self.assertIsNotNone(alike(puzzle, other))
            self.assertEqual(plain(other), (floor, rows, clues))

    def test_twelve_rules_sixteen_cells_four_signs(self):
        lines = ["unlike " + " ".join(str(cell) for cell in reversed(range(16)))] * 11 + ["count 9 4 15 0"]
        puzzle = Puzzle((4, 4, 4), lines, [0] * 15 + [4])
        self.assertEqual(plain(puzzle), plain_apart(puzzle))


class Alike(unittest.TestCase):
    def test_told_by_hand(self):
        one = Puzzle((1, 2, 3), ["unlike 0 1"], [0, 2])
        self.assertEqual(alike(one, one), (0, [1, 2, 3]))
        self.assertEqual(alike(one, Puzzle((1, 2, 3), ["unlike 1 0"], [0, 3])), (0, [1, 3, 2]))
        self.assertEqual(alike(one, Puzzle((1, 2, 3), ["unlike 1 0"], [3, 0])), (2, [1, 3, 2]))
        self.assertEqual(alike(one, Puzzle((2, 1, 3), ["unlike 0 1"], [2, 0])), (3, [1, 2, 3]))
        self.assertIsNone(alike(one, Puzzle((1, 2, 3), ["unlike 0 1"], [0, 0])))
        self.assertIsNone(alike(one, Puzzle((1, 2, 3), ["unlike 0"], [0, 2])))
        self.assertIsNone(alike(one, Puzzle((1, 2, 3), [], [0, 2])))
        self.assertIsNone(alike(one, Puzzle((1, 2, 3), ["unlike 0 1", "unlike 0 1"], [0, 2])))

    def test_it_is_the_first_that_moves_to_the_other(self):
        # the quarter turn to the right, no other turn and no mirroring
        one = Puzzle((2, 2, 2), ["rising 0 1", "rising 0 2 3"], [0] * 4)
        self.assertEqual(alike(one, moved(one, 1)), (1, [1, 2]))
        self.assertEqual(alike(one, moved(one, 3)), (3, [1, 2]))
        for move in range(8):
            self.assertEqual(alike(one, moved(one, move)), (move, [1, 2]))

    def test_kinds_of_what_is_told(self):
        for lines in ([], ["sum 2 0 1"]):
            puzzle = Puzzle((1, 2, 2), lines, [0, 0])
            told = alike(puzzle, puzzle)
            self.assertEqual(told, (0, [1, 2]))
            self.assertEqual([type(told), type(told[1])], [tuple, list])

    def test_no_other_signs_where_a_rule_reckons(self):
        one = Puzzle((1, 2, 2), ["sum 2 0 1"], [1, 0])
        self.assertIsNone(alike(one, Puzzle((1, 2, 2), ["sum 2 0 1"], [2, 0])))
        self.assertEqual(alike(one, Puzzle((1, 2, 2), ["sum 2 0 1"], [0, 1])), (2, [1, 2]))
        self.assertIsNone(alike(one, Puzzle((1, 2, 2), ["unlike 0 1"], [1, 0])))
        self.assertIsNone(alike(Puzzle((1, 2, 2), ["unlike 0 1"], [1, 0]), one))

    def test_floors_that_no_move_leads_to_one_another(self):
        floors = [(1, 4, 2), (2, 2, 2), (1, 4, 3), (2, 2, 3), (1, 3, 2), (4, 4, 4), (2, 6, 2), (3, 4, 2), (4, 1, 3)]
        for one in floors:
            for other in floors:
                told = alike(Puzzle(one, [], [0] * (one[0] * one[1])), Puzzle(other, [], [0] * (other[0] * other[1])))
                if one == other:
                    self.assertEqual(told, (0, list(range(1, one[2] + 1))))
                elif sorted(one[:2]) == sorted(other[:2]) and one[2] == other[2]:
                    self.assertEqual(told, (1, list(range(1, one[2] + 1))))
                else:
                    self.assertIsNone(told, (one, other))

    def test_by_chance(self):
        chance = random.Random(264)
        for turn in range(120):
            one = puzzle_by(chance)
            other = some_moved(chance, mixed(chance, one))
            told = alike(one, other)
            self.assertEqual(told, alike_apart(one, other), (one.lines(), other.lines()))
            self.assertEqual(form(moved(one, told[0], told[1])), form(other))
            self.assertIsNotNone(alike(other, one))

    def test_just_where_the_plain_forms_are_the_same(self):
        chance = random.Random(265)
        small = [Puzzle((1, 2, 2), lines, clues)
                 for lines in ([], ["unlike 0 1"], ["joined 2"], ["rising 1 0"], ["seen 1 0 1"], ["count 1 1 1"])
                 for clues in ([0, 0], [0, 1], [2, 0], [1, 2], [2, 2])]
        small += [some_moved(chance, puzzle) for puzzle in small]
        seen = {True: 0, False: 0}
        for one in small:
            for other in small:
                told = alike(one, other)
                same = plain(one) == plain(other)
                self.assertIs(told is not None, same, (form(one), form(other)))
                self.assertEqual(told, alike_apart(one, other))
                seen[same] += 1
        self.assertGreater(seen[True], len(small))
        self.assertGreater(seen[False], len(small))


class TooManySigns(unittest.TestCase):
    def refuse(self, asked, note):
        with self.assertRaises(ClueError, msg=note) as taken:
            asked()
        self.assertIs(type(taken.exception), TooMany, note)

    def test_more_than_four(self):
        few = Puzzle((1, 2, 4), ["unlike 0 1"], [4, 0])
        self.assertIsNotNone(plain(few))
        self.assertEqual(alike(few, few), (0, [1, 2, 3, 4]))
        for signs in (5, 6):
            for lines in ([], ["unlike 0 1"], ["sum 3 0 1"]):
                for high, wide in ((1, 2), (2, 2)):
                    many = Puzzle((high, wide, signs), lines, [0] * (high * wide))
                    self.refuse(lambda: plain(many), (signs, lines))
                    self.refuse(lambda: alike(many, many), (signs, lines))
                    self.refuse(lambda: alike(many, few), (signs, lines))
                    self.refuse(lambda: alike(few, many), (signs, lines))


class OwnAnswers(unittest.TestCase):
    def test_what_is_handed_in_and_told_is_the_askers_own(self):
        puzzle = Puzzle((1, 2, 2), ["unlike 1 0", "joined 2"], [0, 2])
        other = moved(puzzle, 0, [2, 1])
        before = (form(puzzle), plain(puzzle), alike(puzzle, other))
        self.assertEqual(before[2], (0, [2, 1]))
        for told in (form(puzzle), plain(puzzle)):
            told[1].clear()
            told[2].clear()
        alike(puzzle, other)[1].clear()
        alike(puzzle, puzzle)[1].reverse()
        puzzle.lines().clear()
        puzzle.clues().clear()
        self.assertEqual((form(puzzle), plain(puzzle), alike(puzzle, other)), before)
        self.assertEqual(puzzle.lines(), ["unlike 1 0", "joined 2"])
        self.assertEqual(puzzle.clues(), [0, 2])


if __name__ == "__main__":
    unittest.main()

"""Thoughts by numbers."""

import itertools
import unittest

from cluemaker.numbers import allowed_by_number, rests_by_number
from cluemaker.puzzles import Puzzle

ROW = (1, 4, 3)


def row(line, floor=ROW):
    return Puzzle(floor, [line], [0] * (floor[0] * floor[1]))


def signs_of(mask):
    return [sign for sign in range(1, 7) if mask & 2 ** (sign - 1)]


class Numbers(unittest.TestCase):
    def let(self, puzzle, masks, *thoughts):
        for thought in thoughts:
            self.assertIs(allowed_by_number(puzzle, masks, thought), True, (thought, masks))

    def keep(self, puzzle, masks, *thoughts):
        for thought in thoughts:
            self.assertIs(allowed_by_number(puzzle, masks, thought), False, (thought, masks))

    def rests(self, puzzle, thought, cells):
        told = rests_by_number(puzzle, thought)
        self.assertEqual(told, cells)
        self.assertIs(type(told), list)
        told.append(99)
        self.assertEqual(rests_by_number(puzzle, thought), cells)


class Count(Numbers):
    def test_by_all_masks_of_the_others(self):
        for number in range(4):
            puzzle = row(f"count {number} 2 3 0 2")
            for one, other in itertools.product(range(8), repeat=2):
                masks = [7, 2, one, other]
                only = sum(signs_of(mask) in ([], [2]) for mask in (one, other))
                may = sum(2 in signs_of(mask) for mask in (one, other))
                for sign in (1, 2, 3):
                    wanted = only >= number if sign == 2 else may < number
                    self.assertIs(allowed_by_number(puzzle, masks, ("count", 0, 0, sign, [])), wanted)

    def test_both_halves(self):
        puzzle = row("count 1 2 0 1 2")
        self.let(puzzle, [7, 2, 7, 7], ("count", 0, 0, 2, []))
        self.keep(puzzle, [7, 2, 7, 7], ("count", 0, 0, 1, []), ("count", 0, 0, 3, []))
        self.let(puzzle, [7, 5, 5, 7], ("count", 0, 0, 1, []), ("count", 0, 0, 3, []))
        self.keep(puzzle, [7, 5, 5, 7], ("count", 0, 0, 2, []))
        self.keep(puzzle, [7, 7, 7, 7], ("count", 0, 0, 1, []), ("count", 0, 0, 2, []), ("count", 0, 0, 3, []))

    def test_none_and_all(self):
        self.let(row("count 0 2 0 1"), [7] * 4, ("count", 0, 0, 2, []))
        self.keep(row("count 0 2 0 1"), [7] * 4, ("count", 0, 0, 1, []))
        self.let(row("count 2 2 0 1"), [7] * 4, ("count", 0, 0, 1, []), ("count", 0, 0, 3, []))
        self.keep(row("count 2 2 0 1"), [7] * 4, ("count", 0, 0, 2, []))
        self.let(row("count 99 2 0 1"), [7] * 4, ("count", 0, 0, 1, []))

    def test_a_rule_of_one_cell(self):
        self.let(row("count 0 2 1"), [7] * 4, ("count", 0, 1, 2, []))
        self.keep(row("count 0 2 1"), [7] * 4, ("count", 0, 1, 1, []))
        self.let(row("count 1 2 1"), [7] * 4, ("count", 0, 1, 1, []))
        self.keep(row("count 1 2 1"), [7] * 4, ("count", 0, 1, 2, []))

    def test_more_is_empty(self):
        for more in ([0], [1], [1, 2]):
            self.keep(row("count 0 2 0 1"), [7] * 4, ("count", 0, 0, 2, more))

    def test_it_rests_on_the_others(self):
        self.rests(row("count 1 2 3 0 2"), ("count", 0, 0, 2, []), [2, 3])
        self.rests(row("count 1 2 1"), ("count", 0, 1, 2, []), [])


class Sum(Numbers):
    def test_by_all_masks_of_the_others(self):
        for number in (0, 2, 3, 5, 6, 7, 9, 10, 99):
            puzzle = row(f"sum {number} 3 0 2")
            for one, other in itertools.product(range(8), repeat=2):
                for sign in (1, 2, 3):
                    if one and other:
                        least = sign + signs_of(one)[0] + signs_of(other)[0]
                        greatest = sign + signs_of(one)[-1] + signs_of(other)[-1]
                        wanted = least > number or greatest < number
                    else:
                        wanted = True
                    thought = ("sum", 0, 0, sign, [])
                    self.assertIs(allowed_by_number(puzzle, [7, 0, one, other], thought), wanted, (thought, one, other))

    def test_bounds(self):
        puzzle = row("sum 6 0 1 2")
        self.keep(puzzle, [7, 3, 3, 7], ("sum", 0, 0, 2, []), ("sum", 0, 0, 3, []))
        self.let(puzzle, [7, 3, 3, 7], ("sum", 0, 0, 1, []))
        self.keep(puzzle, [7, 6, 6, 7], ("sum", 0, 0, 1, []), ("sum", 0, 0, 2, []))
        self.let(puzzle, [7, 6, 6, 7], ("sum", 0, 0, 3, []))

    def test_a_hole_between_least_and_greatest_is_not_seen(self):
        self.keep(row("sum 4 0 1"), [7, 5, 7, 7], ("sum", 0, 0, 2, []))

    def test_a_rule_of_one_cell(self):
        puzzle = row("sum 2 1")
        self.let(puzzle, [0] * 4, ("sum", 0, 1, 1, []), ("sum", 0, 1, 3, []))
        self.keep(puzzle, [0] * 4, ("sum", 0, 1, 2, []))

    def test_where_nothing_may_stand(self):
        puzzle = row("sum 6 0 1 2")
        self.let(puzzle, [7, 0, 7, 7], ("sum", 0, 0, 2, []), ("sum", 0, 2, 2, []))
        self.keep(puzzle, [7, 0, 7, 7], ("sum", 0, 1, 2, []))
        self.keep(puzzle, [7, 7, 7, 0], ("sum", 0, 0, 2, []))

    def test_more_is_empty(self):
        for more in ([0], [1], [1, 2]):
            self.keep(row("sum 99 0 1"), [7] * 4, ("sum", 0, 0, 2, more))

    def test_it_rests_on_the_others(self):
        self.rests(row("sum 6 3 0 2"), ("sum", 0, 3, 2, []), [0, 2])
        self.rests(row("sum 6 1"), ("sum", 0, 1, 2, []), [])


class Ways(Numbers):
    def test_any_rule(self):
        floor = (2, 2, 2)
        lines = ["unlike 0 1 3", "sum 5 3 0 1", "rising 0 2", "seen 2 2 1 0", "count 1 2 0 3", "joined 1", "nosquare 2",
                 "ring 1"]
        puzzle = Puzzle(floor, lines, [0] * 4)
        for number, rule in enumerate(puzzle.rules()):
            for masks in itertools.product(range(4), repeat=4):
                for cell in rule.spots():
                    for sign in (1, 2):
                        told = [signs_of(mask) for mask in masks]
                        told[cell] = [sign]
                        told = [told[spot] if spot in rule.spots() else [1] for spot in range(4)]
                        wanted = not any(rule.holds(list(filling)) for filling in itertools.product(*told))
                        thought = ("ways", number, cell, sign, [])
                        self.assertIs(allowed_by_number(puzzle, list(masks), thought), wanted, (lines[number], masks))

    def test_cells_that_are_not_of_the_rule_are_not_asked(self):
        puzzle = row("sum 4 0 1")
        for mask in range(8):
            self.let(puzzle, [7, 5, mask, mask], ("ways", 0, 0, 2, []))
            self.keep(puzzle, [7, 7, mask, mask], ("ways", 0, 0, 2, []))

    def test_what_sum_does_not_see(self):
        self.let(row("sum 4 0 1"), [7, 5, 7, 7], ("ways", 0, 0, 2, []))

    def test_thirty_two_ways_and_more(self):
        floor = (1, 6, 6)
        puzzle = row("sum 99 0 1 2 3 4 5", floor)
        thought = ("ways", 0, 0, 1, [])
        self.let(puzzle, [63, 3, 3, 3, 3, 3], thought)
        # beyond 32 the next number of ways that there can be is 36
        self.keep(puzzle, [63, 7, 3, 3, 3, 3], thought)
        self.let(puzzle, [63, 15, 3, 1, 15, 1], thought)
        self.keep(puzzle, [63, 3, 7, 63, 1, 1], thought)
        self.keep(puzzle, [63, 7, 7, 15, 1, 1], thought)
        self.keep(puzzle, [63, 31, 7, 3, 1, 1], ("ways", 0, 1, 1, []))
        self.let(puzzle, [63, 31, 31, 1, 1, 1], thought)
        self.keep(puzzle, [1, 63, 63, 1, 1, 1], thought)
        self.keep(puzzle, [1, 63, 63, 63, 63, 63], thought)

    def test_the_ways_of_the_cell_itself_are_not_counted(self):
        puzzle = row("sum 99 0 1 2", (1, 3, 6))
        self.let(puzzle, [63, 31, 31], ("ways", 0, 0, 6, []))
        self.keep(puzzle, [31, 63, 63], ("ways", 0, 0, 6, []))
        self.let(puzzle, [63, 15, 7], ("ways", 0, 0, 6, []))

    def test_where_nothing_may_stand_at_one_of_them(self):
        puzzle = row("sum 16 " + " ".join(str(cell) for cell in range(16)), (4, 4, 6))
        for empty in (1, 7, 15):
            masks = [63] * 16
            masks[empty] = 0
            self.let(puzzle, masks, ("ways", 0, 0, 1, []))
            self.keep(puzzle, masks, ("ways", 0, empty, 1, []))

    def test_a_rule_of_one_cell(self):
        puzzle = row("sum 2 1")
        for masks in ([0] * 4, [7] * 4):
            self.let(puzzle, masks, ("ways", 0, 1, 1, []), ("ways", 0, 1, 3, []))
            self.keep(puzzle, masks, ("ways", 0, 1, 2, []))
        self.keep(row("unlike 1"), [7] * 4, ("ways", 0, 1, 1, []))

    def test_more_is_empty(self):
        for more in ([0], [1], [1, 2]):
            self.keep(row("sum 99 0 1"), [7] * 4, ("ways", 0, 0, 2, more))

    def test_it_rests_on_the_others(self):
        self.rests(row("seen 1 3 0 2"), ("ways", 0, 0, 2, []), [2, 3])
        self.rests(row("joined 1"), ("ways", 0, 1, 2, []), [0, 2, 3])
        self.rests(row("rising 2"), ("ways", 0, 2, 2, []), [])


class HandedIn(Numbers):
    def test_all_stays_as_it_was(self):
        for kind, line in (("count", "count 1 2 0 1"), ("sum", "sum 3 0 1"), ("ways", "unlike 0 1")):
            puzzle = row(line)
            masks = [7, 2, 5, 0]
            more = []
            allowed_by_number(puzzle, masks, (kind, 0, 0, 2, more))
            rests_by_number(puzzle, (kind, 0, 0, 2, more)).append(99)
            self.assertEqual(masks, [7, 2, 5, 0])
            self.assertEqual(more, [])
            self.assertEqual(puzzle.lines(), [line])


if __name__ == "__main__":
    unittest.main()

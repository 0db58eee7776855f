"""Thoughts by clues and by rules of cells told one behind the other."""

import itertools
import unittest

from cluemaker.lines import allowed_by_line, rests_by_line
from cluemaker.puzzles import Puzzle

ROW = (1, 4, 3)


def row(line, clues=(0, 0, 0, 0), floor=ROW):
    return Puzzle(floor, [line], list(clues))


class Lines(unittest.TestCase):
    def let(self, puzzle, masks, *thoughts):
        for thought in thoughts:
            self.assertIs(allowed_by_line(puzzle, masks, thought), True, (thought, masks))

    def keep(self, puzzle, masks, *thoughts):
        for thought in thoughts:
            self.assertIs(allowed_by_line(puzzle, masks, thought), False, (thought, masks))

    def rests(self, puzzle, thought, cells):
        told = rests_by_line(puzzle, thought)
        self.assertEqual(told, cells)
        self.assertIs(type(told), list)
        told.append(99)
        self.assertEqual(rests_by_line(puzzle, thought), cells)


class Clue(Lines):
    def test_each_cell_and_sign(self):
        clues = [0, 1, 3, 2]
        puzzle = row("unlike 0 1", clues)
        for masks in ([7] * 4, [0] * 4, [1, 2, 4, 7]):
            for cell in range(4):
                for sign in (1, 2, 3):
                    wanted = clues[cell] not in (0, sign)
                    self.assertIs(allowed_by_line(puzzle, masks, ("clue", 0, cell, sign, [])), wanted)

    def test_more_is_empty(self):
        puzzle = row("unlike 0 1", [1, 1, 0, 0])
        self.let(puzzle, [7] * 4, ("clue", 0, 0, 2, []))
        self.keep(puzzle, [7] * 4, ("clue", 0, 0, 2, [0]), ("clue", 0, 0, 2, [1]), ("clue", 0, 0, 2, [1, 2]))

    def test_it_rests_on_none(self):
        self.rests(row("unlike 0 1", [1, 0, 0, 0]), ("clue", 0, 0, 2, []), [])
        self.rests(Puzzle(ROW, [], [1, 0, 0, 0]), ("clue", 0, 2, 2, []), [])


class Only(Lines):
    def test_by_each_mask(self):
        puzzle = row("unlike 3 0 2")
        for mask in range(8):
            for sign in (1, 2, 3):
                wanted = mask in (0, 2 ** (sign - 1))
                self.assertIs(allowed_by_line(puzzle, [7, 7, 7, mask], ("only", 0, 0, sign, [3])), wanted)
                self.assertIs(allowed_by_line(puzzle, [7, 7, mask, 7], ("only", 0, 3, sign, [2])), wanted)

    def test_where_nothing_may_stand(self):
        puzzle = row("unlike 0 1")
        self.let(puzzle, [7, 0, 7, 7], ("only", 0, 0, 1, [1]), ("only", 0, 0, 2, [1]), ("only", 0, 0, 3, [1]))

    def test_more_is_one_of_the_others(self):
        puzzle = row("unlike 3 0 2")
        masks = [1, 1, 1, 1]
        self.let(puzzle, masks, ("only", 0, 0, 1, [2]), ("only", 0, 0, 1, [3]))
        for more in ([], [0], [1], [4], [-1], [-2], [2, 3], [2, 2], [10 ** 60 - 1]):
            self.keep(puzzle, masks, ("only", 0, 0, 1, more))
        self.keep(row("unlike 0"), masks, ("only", 0, 0, 1, [0]), ("only", 0, 0, 1, [1]))

    def test_it_rests_on_more(self):
        self.rests(row("unlike 3 0 2"), ("only", 0, 0, 1, [3]), [3])
        self.rests(row("unlike 3 0 2"), ("only", 0, 3, 2, [0]), [0])


class Place(Lines):
    def test_by_all_masks_of_the_others(self):
        puzzle = row("unlike 3 0 2")
        for one, other in itertools.product(range(8), repeat=2):
            masks = [7, 7, one, other]
            for sign, told in itertools.product((1, 2, 3), repeat=2):
                wanted = sign != told and not (one | other) & 2 ** (told - 1)
                self.assertIs(allowed_by_line(puzzle, masks, ("place", 0, 0, sign, [told])), wanted)

    def test_as_many_cells_as_signs(self):
        masks = [7, 1, 1, 1]
        self.let(row("unlike 0 1 2"), masks, ("place", 0, 0, 1, [2]))
        self.keep(row("unlike 0 1"), masks, ("place", 0, 0, 1, [2]))
        self.keep(row("unlike 0 1 2 3"), masks, ("place", 0, 0, 1, [2]))
        self.keep(row("unlike 0 1 2", floor=(1, 4, 4)), masks, ("place", 0, 0, 1, [2]))
        self.let(row("unlike 0 1 2 3", floor=(1, 4, 4)), masks, ("place", 0, 0, 1, [2]))

    def test_more_is_another_sign(self):
        puzzle = row("unlike 0 1 2")
        masks = [7, 0, 0, 0]
        self.let(puzzle, masks, ("place", 0, 0, 1, [2]), ("place", 0, 0, 1, [3]), ("place", 0, 0, 3, [1]))
        for more in ([], [1], [0], [4], [-1], [2, 3], [2, 2], [10 ** 60 - 1]):
            self.keep(puzzle, masks, ("place", 0, 0, 1, more))

    def test_one_sign_has_no_other(self):
        self.keep(Puzzle((1, 1, 1), ["unlike 0"], [0]), [1], ("place", 0, 0, 1, [1]), ("place", 0, 0, 1, [2]))

    def test_cells_that_are_not_of_the_rule_are_not_asked(self):
        self.let(row("unlike 0 1 2"), [7, 1, 1, 7], ("place", 0, 0, 1, [2]))

    def test_it_rests_on_the_others(self):
        self.rests(row("unlike 3 0 2"), ("place", 0, 0, 1, [2]), [2, 3])
        self.rests(row("unlike 3 0 2"), ("place", 0, 2, 1, [2]), [0, 3])


class Step(Lines):
    def test_by_all_masks_ahead_and_behind(self):
        puzzle = row("rising 3 0 2")
        for ahead, behind in itertools.product(range(8), repeat=2):
            masks = [7, 7, behind, ahead]
            for sign in (1, 2, 3):
                too_low = all(sign <= other for other in (1, 2, 3) if ahead & 2 ** (other - 1))
                too_high = all(sign >= other for other in (1, 2, 3) if behind & 2 ** (other - 1))
                wanted = too_low or too_high
                self.assertIs(allowed_by_line(puzzle, masks, ("step", 0, 0, sign, [])), wanted, (masks, sign))

    def test_the_first_and_the_last_cell(self):
        puzzle = row("rising 3 0 2")
        full = [7] * 4
        self.keep(puzzle, full, ("step", 0, 3, 1, []), ("step", 0, 3, 2, []))
        self.let(puzzle, full, ("step", 0, 3, 3, []))
        self.keep(puzzle, full, ("step", 0, 2, 3, []), ("step", 0, 2, 2, []))
        self.let(puzzle, full, ("step", 0, 2, 1, []))
        self.let(puzzle, full, ("step", 0, 0, 1, []), ("step", 0, 0, 3, []))
        self.keep(puzzle, full, ("step", 0, 0, 2, []))

    def test_only_the_cells_next_to_it_in_the_rule_are_asked(self):
        puzzle = row("rising 3 0 2 1")
        self.keep(puzzle, [7, 7, 7, 0], ("step", 0, 2, 2, []), ("step", 0, 1, 2, []))
        self.keep(puzzle, [7, 0, 7, 7], ("step", 0, 0, 2, []), ("step", 0, 3, 2, []))
        self.let(puzzle, [7, 0, 7, 7], ("step", 0, 2, 2, []))

    def test_where_nothing_may_stand(self):
        puzzle = row("rising 3 0 2")
        for sign in (1, 2, 3):
            self.let(puzzle, [7, 7, 7, 0], ("step", 0, 0, sign, []))
            self.let(puzzle, [7, 7, 0, 7], ("step", 0, 0, sign, []))
            self.let(puzzle, [0, 7, 7, 7], ("step", 0, 3, sign, []), ("step", 0, 2, sign, []))

    def test_one_cell_has_nothing_ahead_or_behind(self):
        for sign in (1, 2, 3):
            self.keep(row("rising 2"), [0, 0, 0, 0], ("step", 0, 2, sign, []))

    def test_more_is_empty(self):
        puzzle = row("rising 3 0 2")
        for more in ([0], [3], [2], [3, 2]):
            self.keep(puzzle, [0] * 4, ("step", 0, 0, 1, more))

    def test_it_rests_on_the_one_ahead_and_the_next(self):
        puzzle = row("rising 3 0 2 1")
        self.rests(puzzle, ("step", 0, 3, 1, []), [0])
        self.rests(puzzle, ("step", 0, 0, 1, []), [2, 3])
        self.rests(puzzle, ("step", 0, 2, 1, []), [0, 1])
        self.rests(puzzle, ("step", 0, 1, 1, []), [2])
        self.rests(row("rising 2"), ("step", 0, 2, 1, []), [])


class Pair(Lines):
    def test_by_all_masks(self):
        puzzle = row("unlike 3 0 2")
        for one, other in itertools.product(range(8), repeat=2):
            for sign in (1, 2, 3):
                beside_it = [told for told in (1, 2, 3) if told != sign and (one | other) & 2 ** (told - 1)]
                thought = ("pair", 0, 0, sign, [3, 2])
                self.assertIs(allowed_by_line(puzzle, [7, 7, one, other], thought), len(beside_it) <= 1)

    def test_some(self):
        puzzle = row("unlike 0 1 2 3")
        self.let(puzzle, [7, 6, 6, 7], ("pair", 0, 0, 2, [1, 2]), ("pair", 0, 0, 3, [1, 2]))
        self.keep(puzzle, [7, 6, 6, 7], ("pair", 0, 0, 1, [1, 2]))
        self.let(puzzle, [7, 6, 4, 7], ("pair", 0, 0, 2, [1, 2]), ("pair", 0, 0, 3, [1, 2]))
        self.let(puzzle, [7, 1, 1, 7], ("pair", 0, 0, 3, [1, 2]), ("pair", 0, 0, 1, [1, 2]))
        self.keep(puzzle, [7, 1, 2, 7], ("pair", 0, 0, 3, [1, 2]))
        self.let(puzzle, [7, 0, 0, 7], ("pair", 0, 0, 3, [1, 2]))

    def test_more_is_told_in_the_rules_order(self):
        puzzle = row("unlike 3 0 2 1")
        masks = [0] * 4
        self.let(puzzle, masks, ("pair", 0, 0, 1, [3, 2]), ("pair", 0, 0, 1, [2, 1]), ("pair", 0, 0, 1, [3, 1]),
                 ("pair", 0, 1, 1, [0, 2]))
        self.keep(puzzle, masks, ("pair", 0, 0, 1, [2, 3]), ("pair", 0, 0, 1, [1, 2]), ("pair", 0, 1, 1, [2, 0]))

    def test_more_is_two_of_the_others(self):
        puzzle = row("unlike 3 0 2")
        masks = [0] * 4
        for more in ([], [3], [2], [3, 3], [3, 0], [0, 2], [3, 1], [1, 2], [3, 4], [-1, 2], [3, -2], [3, 2, 1],
                     [3, 2, 2], [10 ** 60 - 1, 2]):
            self.keep(puzzle, masks, ("pair", 0, 0, 1, more))

    def test_it_rests_on_more(self):
        self.rests(row("unlike 3 0 2"), ("pair", 0, 0, 1, [3, 2]), [2, 3])
        self.rests(row("unlike 0 1 2"), ("pair", 0, 0, 1, [1, 2]), [1, 2])


class HandedIn(Lines):
    def test_all_stays_as_it_was(self):
        puzzle = row("unlike 3 0 2")
        masks = [7, 7, 3, 3]
        more = [3, 2]
        thought = ("pair", 0, 0, 1, more)
        self.let(puzzle, masks, thought)
        rests_by_line(puzzle, thought).append(99)
        self.assertEqual(masks, [7, 7, 3, 3])
        self.assertEqual(more, [3, 2])
        self.assertEqual(puzzle.lines(), ["unlike 3 0 2"])
        more[0] = 1
        self.keep(puzzle, masks, thought)
        more[0] = 3
        self.let(puzzle, masks, thought)


if __name__ == "__main__":
    unittest.main()

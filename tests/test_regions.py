"""Thoughts by regions of the floor."""

import itertools
import unittest

from cluemaker.puzzles import Puzzle
from cluemaker.regions import allowed_by_region, rests_by_region

THREE = (3, 3, 2)
# of two signs: both may stand, only 1, only 2, nothing
ANY = 3
ONE = 1
TWO = 2


def puzzle_of(line, floor=THREE):
    return Puzzle(floor, [line], [0] * (floor[0] * floor[1]))


class Regions(unittest.TestCase):
    def let(self, puzzle, masks, *thoughts):
        for thought in thoughts:
            self.assertIs(allowed_by_region(puzzle, masks, thought), True, (thought, masks))

    def keep(self, puzzle, masks, *thoughts):
        for thought in thoughts:
            self.assertIs(allowed_by_region(puzzle, masks, thought), False, (thought, masks))

    def rests(self, puzzle, thought, cells):
        told = rests_by_region(puzzle, thought)
        self.assertEqual(told, cells)
        self.assertIs(type(told), list)
        told.append(99)
        self.assertEqual(rests_by_region(puzzle, thought), cells)


class Square(Regions):
    def test_by_all_masks_of_the_other_three(self):
        puzzle = puzzle_of("nosquare 1", (2, 2, 2))
        for cell in range(4):
            for some in itertools.product(range(4), repeat=3):
                masks = list(some[:cell]) + [ANY] + list(some[cell:])
                wanted = all(mask in (0, ONE) for mask in some)
                self.assertIs(allowed_by_region(puzzle, masks, ("square", 0, cell, 1, [0])), wanted)
                self.keep(puzzle, masks, ("square", 0, cell, 2, [0]))

    def test_the_corner_of_a_square_that_the_cell_is_in(self):
        puzzle = puzzle_of("nosquare 1")
        masks = [ONE] * 9
        corners = {0: [0], 1: [0, 1], 2: [1], 3: [0, 3], 4: [0, 1, 3, 4], 5: [1, 4], 6: [3], 7: [3, 4], 8: [4]}
        for cell in range(9):
            for corner in range(-4, 13):
                wanted = corner in corners[cell]
                self.assertIs(allowed_by_region(puzzle, masks, ("square", 0, cell, 1, [corner])), wanted)

    def test_more_is_one_corner(self):
        puzzle = puzzle_of("nosquare 1")
        for more in ([], [0, 0], [0, 1], [0, 1, 3, 4], [10 ** 60 - 1]):
            self.keep(puzzle, [ONE] * 9, ("square", 0, 4, 1, more))

    def test_other_cells_are_not_asked(self):
        puzzle = puzzle_of("nosquare 2")
        self.let(puzzle, [TWO, TWO, 1, TWO, 3, 1, 1, 1, 1], ("square", 0, 4, 2, [0]))
        self.keep(puzzle, [TWO, TWO, 1, ANY, 3, 1, 1, 1, 1], ("square", 0, 4, 2, [0]))

    def test_a_floor_without_squares(self):
        puzzle = puzzle_of("nosquare 1", (1, 4, 2))
        for corner in range(4):
            self.keep(puzzle, [ONE] * 4, ("square", 0, 1, 1, [corner]))

    def test_it_rests_on_the_three_other_cells(self):
        puzzle = puzzle_of("nosquare 1")
        self.rests(puzzle, ("square", 0, 4, 1, [0]), [0, 1, 3])
        self.rests(puzzle, ("square", 0, 4, 1, [3]), [3, 6, 7])
        self.rests(puzzle, ("square", 0, 2, 1, [1]), [1, 4, 5])
        self.rests(puzzle, ("square", 0, 0, 1, [0]), [1, 3, 4])


class Reach(Regions):
    LINES = ("joined 1", "ring 1")

    def test_the_sign_itself_at_a_row(self):
        for line in self.LINES:
            puzzle = puzzle_of(line, (1, 4, 2))
            self.let(puzzle, [ANY, TWO, ANY, ONE], ("reach", 0, 0, 1, [3]))
            self.let(puzzle, [ANY, ANY, TWO, ONE], ("reach", 0, 0, 1, [3]))
            self.keep(puzzle, [ANY, ANY, ANY, ONE], ("reach", 0, 0, 1, [3]))
            self.keep(puzzle, [ANY, ONE, ANY, ONE], ("reach", 0, 0, 1, [3]))
            self.keep(puzzle, [ANY, TWO, ANY, ANY], ("reach", 0, 0, 1, [3]))
            self.keep(puzzle, [ANY, TWO, ANY, TWO], ("reach", 0, 0, 1, [3]))

    def test_the_cell_is_taken_as_one_that_may_have_it(self):
        for line in self.LINES:
            puzzle = puzzle_of(line, (1, 4, 2))
            for mask in range(4):
                self.keep(puzzle, [mask, ANY, ANY, ONE], ("reach", 0, 0, 1, [3]))
                self.let(puzzle, [mask, TWO, ANY, ONE], ("reach", 0, 0, 1, [3]))

    def test_another_sign_at_a_row(self):
        for line in self.LINES:
            puzzle = puzzle_of(line, (1, 4, 2))
            self.let(puzzle, [ONE, ANY, ANY, ONE], ("reach", 0, 1, 2, [0, 3]), ("reach", 0, 1, 2, [3, 0]),
                     ("reach", 0, 2, 2, [0, 3]))
            self.let(puzzle, [ONE, ONE, ANY, ONE], ("reach", 0, 2, 2, [1, 3]), ("reach", 0, 1, 2, [0, 3]))
            self.keep(puzzle, [ONE, ONE, ANY, ONE], ("reach", 0, 2, 2, [0, 1]), ("reach", 0, 3, 2, [0, 1]))
            self.keep(puzzle, [ANY, ANY, ANY, ONE], ("reach", 0, 1, 2, [0, 3]))
            self.keep(puzzle, [ONE, ANY, ANY, ANY], ("reach", 0, 1, 2, [0, 3]))
            self.let(puzzle, [ONE, TWO, ONE, ANY], ("reach", 0, 3, 2, [0, 2]))

    def test_a_way_round(self):
        for line in self.LINES:
            puzzle = puzzle_of(line)
            # 1 at two corners far from one another; the ways between go above or below
            masks = [ONE, ANY, ANY, ANY, TWO, ANY, ANY, ANY, ONE]
            self.keep(puzzle, masks, ("reach", 0, 1, 2, [0, 8]), ("reach", 0, 1, 1, [8]))
            masks[6] = TWO
            self.let(puzzle, masks, ("reach", 0, 1, 2, [0, 8]), ("reach", 0, 2, 2, [8, 0]))
            self.keep(puzzle, masks, ("reach", 0, 3, 2, [0, 8]), ("reach", 0, 3, 1, [8]))
            masks[2] = TWO
            self.let(puzzle, masks, ("reach", 0, 3, 2, [0, 8]), ("reach", 0, 3, 1, [8]), ("reach", 0, 1, 1, [8]))
            self.keep(puzzle, masks, ("reach", 0, 3, 1, [0]), ("reach", 0, 7, 1, [8]))

    def test_other_signs_of_three(self):
        puzzle = puzzle_of("joined 2", (1, 3, 3))
        masks = [2, 7, 2]
        self.let(puzzle, masks, ("reach", 0, 1, 1, [0, 2]), ("reach", 0, 1, 3, [2, 0]))
        self.keep(puzzle, masks, ("reach", 0, 1, 2, [0, 2]), ("reach", 0, 1, 2, [0]), ("reach", 0, 1, 1, [0]))

    def test_where_nothing_may_stand(self):
        for line in self.LINES:
            puzzle = puzzle_of(line, (1, 4, 2))
            self.let(puzzle, [ANY, 0, ANY, ANY], ("reach", 0, 0, 1, [1]), ("reach", 0, 2, 1, [1]))
            self.let(puzzle, [ONE, 0, ANY, ANY], ("reach", 0, 2, 2, [0, 1]), ("reach", 0, 2, 2, [1, 0]))

    def test_more_of_the_sign_itself_is_one_other_cell(self):
        puzzle = puzzle_of("joined 1", (1, 4, 2))
        masks = [ONE, TWO, ANY, ONE]
        self.let(puzzle, masks, ("reach", 0, 0, 1, [3]), ("reach", 0, 3, 1, [0]))
        for more in ([], [0], [4], [-1], [3, 3], [3, 2], [0, 3], [3, 0], [10 ** 60 - 1]):
            self.keep(puzzle, masks, ("reach", 0, 0, 1, more))
        empty = [0] * 4
        self.keep(puzzle, empty, ("reach", 0, 0, 1, [0]), ("reach", 0, 0, 1, [4]), ("reach", 0, 0, 1, [-1]))

    def test_more_of_another_sign_is_two_unlike_other_cells(self):
        puzzle = puzzle_of("joined 1", (1, 4, 2))
        masks = [ONE, ANY, ONE, ONE]
        self.let(puzzle, masks, ("reach", 0, 1, 2, [0, 2]))
        for more in ([], [0], [2], [0, 0], [0, 1], [1, 0], [0, 4], [-1, 0], [0, -1], [0, 2, 3], [10 ** 60 - 1, 0]):
            self.keep(puzzle, masks, ("reach", 0, 1, 2, more))
        empty = [0] * 4
        self.keep(puzzle, empty, ("reach", 0, 1, 2, [0, 0]), ("reach", 0, 1, 2, [1, 0]), ("reach", 0, 1, 2, [0, 1]))

    def test_it_rests_on_all_cells_but_the_cell(self):
        for line in self.LINES:
            puzzle = puzzle_of(line)
            self.rests(puzzle, ("reach", 0, 4, 1, [0]), [0, 1, 2, 3, 5, 6, 7, 8])
            self.rests(puzzle, ("reach", 0, 0, 2, [8, 4]), [1, 2, 3, 4, 5, 6, 7, 8])


class Turn(Regions):
    def test_by_the_cells_beside_it(self):
        puzzle = puzzle_of("ring 1")
        neighbours = {0: [1, 3], 1: [0, 2, 4], 4: [1, 3, 5, 7], 8: [5, 7]}
        for cell, near in neighbours.items():
            for some in itertools.product(range(4), repeat=len(near)):
                for elsewhere in (0, ANY):
                    masks = [elsewhere] * 9
                    for other, mask in zip(near, some):
                        masks[other] = mask
                    may = sum(mask in (ONE, ANY) for mask in some)
                    only = sum(mask in (0, ONE) for mask in some)
                    wanted = may < 2 or only > 2
                    self.assertIs(allowed_by_region(puzzle, masks, ("turn", 0, cell, 1, [])), wanted, (cell, masks))
                    self.keep(puzzle, masks, ("turn", 0, cell, 2, []))

    def test_by_a_cell_beside_it(self):
        puzzle = puzzle_of("ring 1")
        # d and the cells beside it but the cell
        for cell, d, near in ((0, 1, [2, 4]), (1, 0, [3]), (4, 1, [0, 2]), (1, 4, [3, 5, 7]), (5, 8, [7])):
            for some in itertools.product(range(4), repeat=len(near)):
                for at_d, elsewhere in itertools.product(range(4), (0, ANY)):
                    masks = [elsewhere] * 9
                    masks[d] = at_d
                    for other, mask in zip(near, some):
                        masks[other] = mask
                    may = sum(mask in (ONE, ANY) for mask in some)
                    only = sum(mask in (0, ONE) for mask in some)
                    fits = at_d in (0, ONE)
                    self.assertIs(allowed_by_region(puzzle, masks, ("turn", 0, cell, 1, [d])), fits and only >= 2)
                    self.assertIs(allowed_by_region(puzzle, masks, ("turn", 0, cell, 2, [d])), fits and may < 2)

    def test_some(self):
        puzzle = puzzle_of("ring 1")
        full = [ANY] * 9
        self.keep(puzzle, full, ("turn", 0, 0, 1, []), ("turn", 0, 4, 1, []))
        self.let(puzzle, [ANY, TWO] + [ANY] * 7, ("turn", 0, 0, 1, []))
        self.keep(puzzle, [ANY, TWO] + [ANY] * 7, ("turn", 0, 2, 2, []), ("turn", 0, 1, 1, []))
        # a corner that has 1 needs both cells beside it
        self.let(puzzle, [ONE] + [ANY] * 8, ("turn", 0, 1, 2, [0]), ("turn", 0, 3, 2, [0]))
        self.keep(puzzle, [ONE] + [ANY] * 8, ("turn", 0, 1, 1, [0]))

    def test_a_floor_of_one_row(self):
        puzzle = puzzle_of("ring 1", (1, 3, 2))
        self.let(puzzle, [ANY] * 3, ("turn", 0, 0, 1, []), ("turn", 0, 2, 1, []))
        self.keep(puzzle, [ANY] * 3, ("turn", 0, 1, 1, []))
        self.let(puzzle_of("ring 1", (1, 1, 2)), [ANY], ("turn", 0, 0, 1, []))

    def test_joined_has_no_turns(self):
        puzzle = puzzle_of("joined 1")
        self.keep(puzzle, [TWO] * 9, ("turn", 0, 0, 1, []))
        self.keep(puzzle, [0] * 9, ("turn", 0, 0, 1, [1]), ("turn", 0, 0, 2, [1]), ("turn", 0, 0, 1, []))

    def test_more_is_at_most_one_cell_beside(self):
        puzzle = puzzle_of("ring 1")
        empty = [0] * 9
        self.let(puzzle, empty, ("turn", 0, 4, 1, [1]), ("turn", 0, 4, 2, [7]), ("turn", 0, 4, 1, []))
        for more in ([0], [4], [8], [9], [-1], [-2], [1, 3], [1, 1], [10 ** 60 - 1]):
            self.keep(puzzle, empty, ("turn", 0, 4, 1, more), ("turn", 0, 4, 2, more))

    def test_it_rests_on_the_cells_beside(self):
        puzzle = puzzle_of("ring 1")
        self.rests(puzzle, ("turn", 0, 0, 1, []), [1, 3])
        self.rests(puzzle, ("turn", 0, 4, 1, []), [1, 3, 5, 7])
        self.rests(puzzle_of("ring 1", (1, 1, 2)), ("turn", 0, 0, 1, []), [])

    def test_it_rests_on_d_and_the_cells_beside_it(self):
        puzzle = puzzle_of("ring 1")
        self.rests(puzzle, ("turn", 0, 0, 1, [1]), [1, 2, 4])
        self.rests(puzzle, ("turn", 0, 0, 2, [3]), [3, 4, 6])
        self.rests(puzzle, ("turn", 0, 4, 2, [1]), [0, 1, 2])
        self.rests(puzzle, ("turn", 0, 1, 2, [4]), [3, 4, 5, 7])
        self.rests(puzzle, ("turn", 0, 7, 1, [8]), [5, 8])


class HandedIn(Regions):
    def test_all_stays_as_it_was(self):
        for line, thought in (("nosquare 1", ("square", 0, 4, 1, [0])), ("joined 1", ("reach", 0, 4, 2, [0, 8])),
                              ("ring 1", ("reach", 0, 4, 1, [0])), ("ring 1", ("turn", 0, 4, 1, [1])),
                              ("ring 1", ("turn", 0, 4, 1, []))):
            puzzle = puzzle_of(line)
            masks = [ONE, ONE, ANY, ONE, ANY, TWO, 0, TWO, ONE]
            more = list(thought[4])
            allowed_by_region(puzzle, masks, thought)
            rests_by_region(puzzle, thought).append(99)
            self.assertEqual(masks, [ONE, ONE, ANY, ONE, ANY, TWO, 0, TWO, ONE])
            self.assertEqual(thought[4], more)
            self.assertEqual(puzzle.lines(), [line])


if __name__ == "__main__":
    unittest.main()

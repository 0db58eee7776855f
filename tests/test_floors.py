import itertools
import unittest

from cluemaker.errors import NoFloor
from cluemaker.floors import beside, floor_of, many_cells, reached, spot_of, squares

SIXTY_FIGURES = 10 ** 60 - 1
SIZES = [(high, wide) for high in range(1, 7) for wide in range(1, 7) if high * wide <= 16]
FLOORS = [(high, wide, 3) for high, wide in SIZES]


def far(floor, one, other):
    wide = floor[1]
    return abs(one // wide - other // wide) + abs(one % wide - other % wide)


def reached_by_widening(floor, cells, start):
    """Another way to the same: widen a set until it stays as it is."""
    inside = {start} & set(cells)
    while True:
        wider = inside | {cell for cell in cells for other in inside if far(floor, cell, other) == 1}
        if wider == inside:
            return sorted(inside)
        inside = wider


class Floors(unittest.TestCase):
    def refuse(self, high, wide, signs):
        with self.assertRaises(NoFloor, msg=(high, wide, signs)):
            floor_of(high, wide, signs)

    def test_every_floor_in_the_bounds_and_none_about_them(self):
        told = 0
        for high, wide, signs in itertools.product(range(-1, 9), repeat=3):
            if 1 <= high <= 6 and 1 <= wide <= 6 and high * wide <= 16 and 1 <= signs <= 6:
                floor = floor_of(high, wide, signs)
                self.assertIs(type(floor), tuple)
                self.assertEqual(floor, (high, wide, signs))
                told += 1
            else:
                self.refuse(high, wide, signs)
        self.assertEqual(told, 26 * 6)

    def test_bounds_of_each_number(self):
        for wrong in (0, 7, -1, -6, SIXTY_FIGURES, -SIXTY_FIGURES, 10 ** 59, -(10 ** 59)):
            self.refuse(wrong, 1, 1)
            self.refuse(1, wrong, 1)
            self.refuse(1, 1, wrong)
        self.refuse(-2, -2, 2)
        self.refuse(SIXTY_FIGURES, SIXTY_FIGURES, SIXTY_FIGURES)

    def test_bound_of_the_cells(self):
        for high, wide in ((3, 6), (6, 3), (5, 4), (4, 5), (6, 6), (5, 5)):
            self.refuse(high, wide, 1)
        for high, wide in ((4, 4), (3, 5), (5, 3), (2, 6), (6, 2), (6, 1), (1, 6)):
            self.assertEqual(floor_of(high, wide, 6), (high, wide, 6))

    def test_truths_are_no_whole_numbers(self):
        self.refuse(True, 2, 2)
        self.refuse(2, True, 2)
        self.refuse(2, 2, True)
        self.refuse(False, 2, 2)


class Cells(unittest.TestCase):
    def test_many_cells(self):
        self.assertEqual(many_cells((1, 1, 1)), 1)
        self.assertEqual(many_cells((2, 3, 6)), 6)
        self.assertEqual(many_cells((4, 4, 2)), 16)
        for floor in FLOORS:
            self.assertEqual(many_cells(floor), floor[0] * floor[1])

    def test_spots_row_by_row_from_the_left(self):
        for floor in FLOORS:
            spots = [(row, column) for row in range(floor[0]) for column in range(floor[1])]
            self.assertEqual([spot_of(floor, cell) for cell in range(len(spots))], spots)

    def test_one_spot(self):
        spot = spot_of((2, 3, 4), 5)
        self.assertIs(type(spot), tuple)
        self.assertEqual(spot, (1, 2))
        self.assertEqual(spot_of((3, 2, 4), 5), (2, 1))


class Beside(unittest.TestCase):
    def test_within_at_edges_and_corners(self):
        floor = (3, 4, 2)
        self.assertEqual(beside(floor, 0), [1, 4])
        self.assertEqual(beside(floor, 3), [2, 7])
        self.assertEqual(beside(floor, 8), [4, 9])
        self.assertEqual(beside(floor, 11), [7, 10])
        self.assertEqual(beside(floor, 1), [0, 2, 5])
        self.assertEqual(beside(floor, 4), [0, 5, 8])
        self.assertEqual(beside(floor, 7), [3, 6, 11])
        self.assertEqual(beside(floor, 10), [6, 9, 11])
        self.assertEqual(beside(floor, 5), [1, 4, 6, 9])
        self.assertEqual(beside(floor, 6), [2, 5, 7, 10])

    def test_one_row_one_column_one_cell(self):
        self.assertEqual([beside((1, 4, 1), cell) for cell in range(4)], [[1], [0, 2], [1, 3], [2]])
        self.assertEqual([beside((4, 1, 1), cell) for cell in range(4)], [[1], [0, 2], [1, 3], [2]])
        self.assertEqual(beside((1, 1, 1), 0), [])

    def test_every_cell_of_every_size(self):
        for floor in FLOORS:
            cells = range(floor[0] * floor[1])
            for cell in cells:
                self.assertEqual(beside(floor, cell), [other for other in cells if far(floor, cell, other) == 1])


class Squares(unittest.TestCase):
    def test_some(self):
        self.assertEqual(squares((2, 2, 1)), [[0, 1, 2, 3]])
        self.assertEqual(squares((2, 3, 1)), [[0, 1, 3, 4], [1, 2, 4, 5]])
        self.assertEqual(squares((3, 2, 1)), [[0, 1, 2, 3], [2, 3, 4, 5]])
        self.assertEqual(squares((3, 3, 6)), [[0, 1, 3, 4], [1, 2, 4, 5], [3, 4, 6, 7], [4, 5, 7, 8]])

    def test_none_on_one_row_or_column(self):
        for long in range(1, 7):
            self.assertEqual(squares((1, long, 2)), [])
            self.assertEqual(squares((long, 1, 2)), [])

    def test_every_size(self):
        for floor in FLOORS:
            high, wide, signs = floor
            wanted = []
            for row in range(high - 1):
                for column in range(wide - 1):
                    spots = [(row, column), (row, column + 1), (row + 1, column), (row + 1, column + 1)]
                    wanted.append([down * wide + right for down, right in spots])
            self.assertEqual(squares(floor), wanted)


class Reached(unittest.TestCase):
    def test_any_order_and_some_twice(self):
        floor = (3, 3, 2)
        self.assertEqual(reached(floor, [8, 4, 0, 5, 4, 8, 1], 8), [0, 1, 4, 5, 8])
        self.assertEqual(reached(floor, [2, 1, 1, 2, 0], 1), [0, 1, 2])
        self.assertEqual(reached(floor, [7, 0, 7, 0, 7], 7), [7])

    def test_start_not_in_the_list(self):
        self.assertEqual(reached((3, 3, 2), [0, 2, 3], 1), [])
        self.assertEqual(reached((3, 3, 2), [], 4), [])
        self.assertEqual(reached((1, 1, 1), [], 0), [])
        self.assertEqual(reached((3, 3, 2), [0, 1, 2], SIXTY_FIGURES), [])

    def test_start_alone(self):
        self.assertEqual(reached((3, 3, 2), [4], 4), [4])
        self.assertEqual(reached((1, 1, 1), [0, 0], 0), [0])

    def test_parts_that_touch_at_a_corner_alone(self):
        floor = (3, 3, 2)
        self.assertEqual(reached(floor, [0, 4, 8], 4), [4])
        self.assertEqual(reached(floor, [0, 1, 5, 8], 0), [0, 1])
        self.assertEqual(reached(floor, [0, 1, 5, 8], 8), [5, 8])

    def test_a_rows_end_is_not_beside_the_next_rows_start(self):
        self.assertEqual(reached((2, 3, 2), [2, 3], 2), [2])
        self.assertEqual(reached((4, 4, 2), [3, 4, 7, 8], 3), [3, 7])

    def test_a_winding_way(self):
        floor = (5, 3, 2)
        snake = [0, 1, 2, 5, 8, 7, 6, 9, 12, 13, 14]
        self.assertEqual(reached(floor, snake[::-1], 0), sorted(snake))
        self.assertEqual(reached(floor, [cell for cell in snake if cell != 7], 0), [0, 1, 2, 5, 8])

    def test_a_long_list(self):
        self.assertEqual(reached((2, 2, 1), [0, 3, 0, 3] * 100, 3), [3])
        self.assertEqual(reached((2, 2, 1), [0, 3, 1, 3] * 100, 3), [0, 1, 3])

    def test_every_list_of_small_floors(self):
        for high, wide in ((1, 1), (1, 6), (6, 1), (2, 2), (2, 4), (3, 3)):
            floor = (high, wide, 1)
            every = list(range(high * wide))
            for kept in itertools.product((False, True), repeat=len(every)):
                cells = [cell for cell in reversed(every) if kept[cell]]
                for start in every:
                    self.assertEqual(reached(floor, cells, start), reached_by_widening(floor, cells, start))

    def test_the_list_stays_as_it_is(self):
        cells = [8, 4, 0, 5, 4, 8, 1]
        reached((3, 3, 2), cells, 8)
        self.assertEqual(cells, [8, 4, 0, 5, 4, 8, 1])


class OwnAnswers(unittest.TestCase):
    def test_a_changed_answer_changes_no_later_one(self):
        floor = (3, 3, 2)
        cells = [0, 1, 3]
        neighbours = beside(floor, 4)
        neighbours.append(99)
        self.assertEqual(beside(floor, 4), [1, 3, 5, 7])
        told = squares(floor)
        told[0][0] = 99
        told.pop()
        self.assertEqual(squares(floor), [[0, 1, 3, 4], [1, 2, 4, 5], [3, 4, 6, 7], [4, 5, 7, 8]])
        found = reached(floor, cells, 0)
        found.clear()
        self.assertEqual(cells, [0, 1, 3])
        self.assertEqual(reached(floor, cells, 0), [0, 1, 3])

    def test_an_answer_stays_when_what_was_handed_in_changes(self):
        cells = [0, 1]
        found = reached((2, 2, 2), cells, 0)
        cells.append(3)
        self.assertEqual(found, [0, 1])
        self.assertEqual(reached((2, 2, 2), cells, 0), [0, 1, 3])


if __name__ == "__main__":
    unittest.main()

"""Floors: how their cells are numbered, and which of them lie together."""

from cluemaker.errors import NoFloor

MOST_SIDE = 6
MOST_CELLS = 16
MOST_SIGNS = 6


def is_whole(value):
    # Python counts True and False among the ints
    return isinstance(value, int) and not isinstance(value, bool)


def is_from_one_to(value, most):
    return is_whole(value) and 1 <= value and value <= most


def floor_of(high, wide, signs):
    if not is_from_one_to(high, MOST_SIDE):
        raise NoFloor("a floor is 1 to 6 cells high")
    if not is_from_one_to(wide, MOST_SIDE):
        raise NoFloor("a floor is 1 to 6 cells wide")
    if high * wide > MOST_CELLS:
        raise NoFloor("a floor has at most 16 cells")
    if not is_from_one_to(signs, MOST_SIGNS):
        raise NoFloor("a floor has 1 to 6 signs")
    return (high, wide, signs)


def many_cells(floor):
    return floor[0] * floor[1]


def spot_of(floor, cell):
    wide = floor[1]
    return (cell // wide, cell % wide)


def beside(floor, cell):
    high = floor[0]
    wide = floor[1]
    spot = spot_of(floor, cell)
    found = []
    # above, left, right, below: in this order the numbers rise
    if spot[0] > 0:
        found.append(cell - wide)
    if spot[1] > 0:
        found.append(cell - 1)
    if spot[1] < wide - 1:
        found.append(cell + 1)
    if spot[0] < high - 1:
        found.append(cell + wide)
    return found


def is_corner(floor, cell):
    spot = spot_of(floor, cell)
    return spot[0] < floor[0] - 1 and spot[1] < floor[1] - 1


def square_at(floor, corner):
    below = corner + floor[1]
    return [corner, corner + 1, below, below + 1]


def squares(floor):
    return [square_at(floor, cell) for cell in range(many_cells(floor)) if is_corner(floor, cell)]


def reached(floor, cells, start):
    if start not in cells:
        return []
    found = [start]
    place = 0
    # found grows while it is gone through; each cell comes into it once, so this ends
    while place < len(found):
        for cell in beside(floor, found[place]):
            if cell in cells and cell not in found:
                found.append(cell)
        place = place + 1
    return sorted(found)

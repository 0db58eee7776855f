"""A plain seeker: the answers of a puzzle, by going through all floors."""

from cluemaker.errors import TooMany
from cluemaker.floors import many_cells

MOST_FLOORS = 1024


def refuse_too_many(puzzle):
    floors = 1
    for clue in puzzle.clues():
        if clue == 0:
            floors = floors * puzzle.place()[2]
    if floors > MOST_FLOORS:
        raise TooMany("the puzzle has more than 1,024 floors to go through")


def with_each(fillings, signs):
    found = []
    for filling in fillings:
        found.extend([filling + [sign] for sign in signs])
    return found


# all fillings with one of the signs told for each cell, in that order, the last cells changing fastest
def every_filling(signs_by_cell):
    fillings = [[]]
    for signs in signs_by_cell:
        fillings = with_each(fillings, signs)
    return fillings


def signs_from(floor, number):
    signs = list(range(1, floor[2] + 1))
    first = number % floor[2]
    return signs[first:] + signs[:first]


def signs_to_try(puzzle, numbers):
    floor = puzzle.place()
    return [signs_from(floor, number) if clue == 0 else [clue] for clue, number in zip(puzzle.clues(), numbers)]


# the first so many answers that are come to
def found_by(puzzle, numbers, most):
    refuse_too_many(puzzle)
    found = []
    for filling in every_filling(signs_to_try(puzzle, numbers)):
        if len(found) == most:
            return found
        if puzzle.meets(filling):
            found.append(filling)
    return found


def answers(puzzle, most=2):
    return found_by(puzzle, [0] * many_cells(puzzle.place()), most)


def filled(puzzle, numbers):
    found = found_by(puzzle, numbers, 1)
    return found[0] if found != [] else None

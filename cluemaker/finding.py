"""Finding thoughts: of one kind, by one rule, those that are let by from masks and strike what stands.

The masks handed in here don't clash.
"""

from cluemaker.floors import beside, many_cells, reached, squares
from cluemaker.kinds import goes_by, others
from cluemaker.masks import clashes, has_only, signs_in, stands, struck
from cluemaker.thoughts import strikes


def only_mores(rule, masks, cell, sign):
    return [[other] for other in sorted(others(rule, cell)) if has_only(masks[other], sign)]


def place_mores(floor, sign):
    return [[other] for other in range(1, floor[2] + 1) if other != sign]


def square_mores(floor, cell):
    return [[square[0]] for square in squares(floor) if cell in square]


# Where nothing clashes, a cell that has only S may have S. So being reached goes both ways, and if any two such cells
# are parted, then the first of them is parted from some other one: the first more always begins with it.
def reach_mores(floor, rule, masks, cell, sign):
    mark = rule.sign()
    sure = [other for other in others(rule, cell) if has_only(masks[other], mark)]
    through = [other for other in others(rule, cell) if stands(masks[other], mark)]
    if sign == mark:
        joined = reached(floor, through + [cell], cell)
        return [[other] for other in sure if other not in joined]
    joined = reached(floor, through, sure[0]) if sure != [] else []
    return [[sure[0], other] for other in sure if other not in joined]


def turn_mores(floor, cell):
    return [[]] + [[other] for other in beside(floor, cell)]


def pair_mores(rule, masks, cell):
    spots = rule.spots()
    # where more than two signs may stand there is always one too many for a pair
    few = [other for other in sorted(others(rule, cell)) if len(signs_in(masks[other])) <= 2]
    found = []
    for first in few:
        found.extend([[first, second] for second in few if spots.index(first) < spots.index(second)])
    return found


# the mores to be tried, rising: all with which such a thought can be let by, and perhaps others, or the first of these
def mores_to_try(puzzle, masks, kind, number, cell, sign):
    floor = puzzle.place()
    if kind == "place":
        return place_mores(floor, sign)
    if kind == "square":
        return square_mores(floor, cell)
    if kind == "turn":
        return turn_mores(floor, cell)
    if kind == "only":
        return only_mores(puzzle.rules()[number], masks, cell, sign)
    if kind == "reach":
        return reach_mores(floor, puzzle.rules()[number], masks, cell, sign)
    if kind == "pair":
        return pair_mores(puzzle.rules()[number], masks, cell)
    return [[]]


def first_at(puzzle, masks, kind, number, cell, sign):
    for more in mores_to_try(puzzle, masks, kind, number, cell, sign):
        thought = (kind, number, cell, sign, more)
        if strikes(puzzle, masks, thought):
            return thought
    return None


def rule_numbers(puzzle, kind):
    if kind == "clue":
        return [0]
    return [number for number, rule in enumerate(puzzle.rules()) if goes_by(kind, rule)]


def cells_to_try(puzzle, kind, number):
    if kind == "clue":
        return list(range(many_cells(puzzle.place())))
    return sorted(puzzle.rules()[number].spots())


# the first of them by cell and sign, then the first behind it from the masks that it leaves, and so on until a clash
def found_by_rule(puzzle, masks, kind, number):
    now = list(masks)
    book = []
    for cell in cells_to_try(puzzle, kind, number):
        for sign in signs_in(now[cell]):
            thought = first_at(puzzle, now, kind, number, cell, sign)
            if thought is not None:
                book.append(thought)
                now = struck(now, cell, sign)
        if clashes(now):
            return book
    return book

"""Thoughts by regions of the floor: square, reach, turn."""

from cluemaker.floors import beside, many_cells, reached, squares
from cluemaker.kinds import is_cell, is_formed, many_may, many_only, masks_at, others
from cluemaker.masks import has_only, stands

REGION_KINDS = ("square", "reach", "turn")


# the three other cells of the square; none where there is no square with this corner that the cell is in
def rest_of_square(floor, corner, cell):
    for square in squares(floor):
        if square[0] == corner and cell in square:
            return [other for other in square if other != cell]
    return []


def square_strikes(floor, rule, masks, cell, sign, more):
    if sign != rule.sign() or len(more) != 1:
        return False
    rest = rest_of_square(floor, more[0], cell)
    return rest != [] and many_only(masks_at(masks, rest), sign) == len(rest)


def is_another_with_only(floor, masks, cell, other, mark):
    return is_cell(floor, other) and other != cell and has_only(masks[other], mark)


def reach_strikes(floor, rule, masks, cell, sign, more):
    mark = rule.sign()
    if not all([is_another_with_only(floor, masks, cell, other, mark) for other in more]):
        return False
    through = [other for other in others(rule, cell) if stands(masks[other], mark)]
    if sign == mark:
        return len(more) == 1 and more[0] not in reached(floor, through + [cell], cell)
    if len(more) != 2 or more[0] == more[1]:
        return False
    return more[1] not in reached(floor, through, more[0])


def around(floor, middle, cell):
    return [other for other in beside(floor, middle) if other != cell]


def turn_strikes(floor, rule, masks, cell, sign, more):
    mark = rule.sign()
    if more == []:
        some = masks_at(masks, beside(floor, cell))
        return sign == mark and (many_may(some, mark) < 2 or many_only(some, mark) > 2)
    if len(more) != 1 or more[0] not in beside(floor, cell) or not has_only(masks[more[0]], mark):
        return False
    some = masks_at(masks, around(floor, more[0], cell))
    if sign == mark:
        return many_only(some, mark) >= 2
    return many_may(some, mark) < 2


# whether a thought of a kind of this file is let by from the masks, its form being as told (is_formed)
def strikes_by_region(puzzle, masks, thought):
    floor = puzzle.place()
    rule = puzzle.rules()[thought[1]]
    if thought[0] == "square":
        return square_strikes(floor, rule, masks, thought[2], thought[3], thought[4])
    if thought[0] == "reach":
        return reach_strikes(floor, rule, masks, thought[2], thought[3], thought[4])
    return turn_strikes(floor, rule, masks, thought[2], thought[3], thought[4])


# as above, of any thought: False of one that has another form or kind
def allowed_by_region(puzzle, masks, thought):
    return is_formed(puzzle, thought) and thought[0] in REGION_KINDS and strikes_by_region(puzzle, masks, thought)


# the cells on which a thought of a kind of this file rests, its parts being as told of its kind
def rests_by_region(puzzle, thought):
    floor = puzzle.place()
    cell = thought[2]
    more = thought[4]
    if thought[0] == "square":
        return sorted(rest_of_square(floor, more[0], cell))
    if thought[0] == "reach":
        return [other for other in range(many_cells(floor)) if other != cell]
    if more == []:
        return beside(floor, cell)
    return sorted(around(floor, more[0], cell) + [more[0]])

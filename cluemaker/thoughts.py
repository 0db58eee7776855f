"""Plain thoughts of any kind: whether they are let by, and the cells that they rest on."""

from cluemaker.kinds import is_formed
from cluemaker.lines import LINE_KINDS, rests_by_line, strikes_by_line
from cluemaker.numbers import NUMBER_KINDS, rests_by_number, strikes_by_number
from cluemaker.regions import rests_by_region, strikes_by_region


# whether a plain thought is let by from the masks, its form being as told (is_formed)
def strikes(puzzle, masks, thought):
    if thought[0] in LINE_KINDS:
        return strikes_by_line(puzzle, masks, thought)
    if thought[0] in NUMBER_KINDS:
        return strikes_by_number(puzzle, masks, thought)
    return strikes_by_region(puzzle, masks, thought)


def allowed(puzzle, masks, thought):
    return is_formed(puzzle, thought) and strikes(puzzle, masks, thought)


def rests_on(puzzle, thought):
    if thought[0] in LINE_KINDS:
        return rests_by_line(puzzle, thought)
    if thought[0] in NUMBER_KINDS:
        return rests_by_number(puzzle, thought)
    return rests_by_region(puzzle, thought)

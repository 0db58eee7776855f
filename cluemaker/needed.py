"""Which kinds of thoughts settle a puzzle, and which of them are needed."""

from cluemaker.kinds import KINDS
from cluemaker.masks import filling_by, full, is_settled
from cluemaker.thinking import think


def standstill(puzzle, kinds):
    return think(puzzle, full(puzzle.place()), kinds)[0]


def settles(puzzle, kinds):
    masks = standstill(puzzle, kinds)
    return is_settled(masks) and puzzle.meets(filling_by(masks))


def all_but(kinds, kind):
    return [other for other in kinds if other != kind]


def needed(puzzle):
    kinds = list(KINDS)
    if not settles(puzzle, kinds):
        return None
    for kind in reversed(KINDS):
        if settles(puzzle, all_but(kinds, kind)):
            kinds = all_but(kinds, kind)
    return (kinds, [(kind, standstill(puzzle, all_but(kinds, kind))) for kind in kinds])

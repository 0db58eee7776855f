"""Hints from entries, and entries that are wrong."""

from cluemaker.kinds import KINDS
from cluemaker.masks import clashes, masks_by
from cluemaker.thinking import next_thought, think


def hint(puzzle, entries):
    return next_thought(puzzle, masks_by(puzzle.place(), entries), KINDS)


def think_from(puzzle, entries, kinds):
    return think(puzzle, masks_by(puzzle.place(), entries), kinds)


def is_wrong(puzzle, entries, kinds):
    return clashes(think_from(puzzle, entries, kinds)[0])


def without_entry(entries, cell):
    return [0 if place == cell else sign for place, sign in enumerate(entries)]


def cells_of(entries):
    return [cell for cell, sign in enumerate(entries) if sign != 0]


# from the last entry to the first, each is left out where what is left is still wrong
def wrong_alone(puzzle, entries, kinds):
    left = list(entries)
    for cell in reversed(cells_of(entries)):
        fewer = without_entry(left, cell)
        if is_wrong(puzzle, fewer, kinds):
            left = fewer
    return left


def wrong(puzzle, entries, kinds):
    if not is_wrong(puzzle, entries, kinds):
        return None
    left = wrong_alone(puzzle, entries, kinds)
    cells = cells_of(left)
    rests = [(cell, think_from(puzzle, without_entry(left, cell), kinds)[0]) for cell in cells]
    return (cells, think_from(puzzle, left, kinds)[1], rests)

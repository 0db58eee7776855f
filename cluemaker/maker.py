"""Making puzzles: clues are taken out as long as the puzzle is still settled, or are shown to be least."""

from cluemaker.errors import NotOne
from cluemaker.needed import settles, standstill
from cluemaker.solver import solve


def without_clue(puzzle, cell):
    clues = puzzle.clues()
    clues[cell] = 0
    return puzzle.clued(clues)


def taken(puzzle, order, kinds):
    if not settles(puzzle, kinds):
        return None
    now = puzzle
    kept = []
    for cell in order:
        # a clue that stayed once stays, as with fewer clues less is settled
        if now.clues()[cell] != 0 and cell not in kept:
            fewer = without_clue(now, cell)
            if settles(fewer, kinds):
                now = fewer
            else:
                kept.append(cell)
    return (now.clues(), [(cell, standstill(without_clue(now, cell), kinds)) for cell in sorted(kept)])


# of two unlike answers at most one has the clue, as the puzzle has one answer with it
def with_another_sign(one, other, cell, clue):
    return one if one[cell] != clue else other


def least(puzzle):
    if solve(puzzle)[0] != "one":
        raise NotOne("the puzzle is not told to have one answer")
    others = []
    for cell, clue in enumerate(puzzle.clues()):
        if clue != 0:
            told = solve(without_clue(puzzle, cell))
            if told[0] == "one":
                return ("spare", cell, told[2])
            if told[0] == "rests":
                return ("rests", cell)
            others.append((cell, with_another_sign(told[1], told[2], cell, clue)))
    return ("least", others)

"""Small puzzles by chance, and their answers by going through all fillings, for the tests that need many of them."""

import itertools

from cluemaker.puzzles import Puzzle

FLOORS = [(1, 2, 4), (1, 3, 3), (1, 4, 3), (1, 5, 2), (1, 6, 2), (2, 2, 3), (2, 2, 4), (2, 3, 2), (2, 3, 3), (2, 4, 2),
          (3, 3, 2)]
NAMES = ["unlike", "unlike", "unlike", "sum", "rising", "seen", "count", "joined", "nosquare", "ring"]


def full_of(puzzle):
    return [2 ** puzzle.place()[2] - 1] * len(puzzle.clues())


def all_answers(puzzle):
    told = [[clue] if clue else range(1, puzzle.place()[2] + 1) for clue in puzzle.clues()]
    rules = puzzle.rules()
    return [list(filling) for filling in itertools.product(*told) if all(rule.holds(filling) for rule in rules)]


def line_by(chance, floor, filling):
    """A row of words that mostly, but not always, the filling meets."""
    name = chance.choice(NAMES)
    cells = chance.sample(range(len(filling)), chance.randrange(1, min(len(filling), 5) + 1))
    mark = chance.randrange(1, floor[2] + 1)
    signs = [filling[cell] for cell in cells]
    if name in ("joined", "nosquare", "ring"):
        return f"{name} {mark}"
    if name == "unlike" and chance.random() < 0.9:
        cells = [cell for place, cell in enumerate(cells) if filling[cell] not in signs[:place]]
    if name == "rising" and chance.random() < 0.9:
        cells = sorted([cell for place, cell in enumerate(cells) if filling[cell] not in signs[:place]],
                       key=lambda cell: filling[cell])
    words = [name]
    if name == "sum":
        words.append(sum(signs))
    if name == "seen":
        words.append(sum(all(sign > other for other in signs[:place]) for place, sign in enumerate(signs)))
    if name == "count":
        words += [signs.count(mark), mark]
    return " ".join(str(word) for word in words + cells)


def puzzle_by(chance):
    floor = chance.choice(FLOORS)
    filling = [chance.randrange(1, floor[2] + 1) for cell in range(floor[0] * floor[1])]
    lines = [line_by(chance, floor, filling) for turn in range(chance.randrange(7))]
    often = chance.choice([0, 0.2, 0.5, 0.9])
    clues = [sign if chance.random() < often else 0 for sign in filling]
    if chance.random() < 0.1:
        clues[chance.randrange(len(clues))] = chance.randrange(1, floor[2] + 1)
    return Puzzle(floor, lines, clues)


def deepest(book):
    """How many books lie in one another, this one counted."""
    return 1 + max([deepest(thought[4]) for thought in book if thought[0] == "suppose"], default=0)

"""Moves: a floor mirrored and turned, signs exchanged, and what lies on the floor with them."""

from cluemaker.errors import NoMove
from cluemaker.floors import is_whole, many_cells, spot_of
from cluemaker.puzzles import Puzzle
from cluemaker.rows import line_by

MANY_MOVES = 8
MANY_TURNS = 4


def refuse_no_move(move):
    if not is_whole(move) or move < 0 or move >= MANY_MOVES:
        raise NoMove("a move is a number from 0 to 7")


def turned_floor(floor):
    return (floor[1], floor[0], floor[2])


# a quarter turn to the right: the uppermost row becomes the last column
def turned_spot(floor, spot):
    return (spot[1], floor[0] - 1 - spot[0])


def mirrored_spot(floor, spot):
    return (spot[0], floor[1] - 1 - spot[1])


def moved_floor(floor, move):
    refuse_no_move(move)
    now = floor
    for turn in range(move % MANY_TURNS):
        now = turned_floor(now)
    return now


def moved_cell(floor, move, cell):
    now = floor
    spot = spot_of(floor, cell)
    if move >= MANY_TURNS:
        spot = mirrored_spot(floor, spot)
    for turn in range(move % MANY_TURNS):
        spot = turned_spot(now, spot)
        now = turned_floor(now)
    return spot[0] * now[1] + spot[1]


def moved_cells(floor, move):
    refuse_no_move(move)
    return [moved_cell(floor, move, cell) for cell in range(many_cells(floor))]


def unchanged_signs(floor):
    return list(range(1, floor[2] + 1))


def is_exchange(floor, signs):
    # whole numbers first, as others may be the same as a sign, or not to be sorted at all
    if not isinstance(signs, list) or not all([is_whole(sign) for sign in signs]):
        return False
    return sorted(signs) == unchanged_signs(floor)


def exchange_by(floor, signs):
    if signs is None:
        return unchanged_signs(floor)
    if not is_exchange(floor, signs):
        raise NoMove("signs are exchanged by a list with each sign of the floor once")
    return signs


# 0, where no sign is told, stays 0
def exchanged(sign, signs):
    return 0 if sign == 0 else signs[sign - 1]


def moved_filling(floor, filling, move, signs=None):
    cells = moved_cells(floor, move)
    exchange = exchange_by(floor, signs)
    found = [0] * many_cells(floor)
    for cell, sign in zip(cells, filling):
        found[cell] = exchanged(sign, exchange)
    return found


def moved_line(rule, cells, signs):
    return line_by(rule.name(), rule.number(), exchanged(rule.sign(), signs), [cells[cell] for cell in rule.spots()])


def has_reckoning(puzzle):
    return any([rule.reckons() for rule in puzzle.rules()])


def moved(puzzle, move, signs=None):
    floor = puzzle.place()
    cells = moved_cells(floor, move)
    exchange = exchange_by(floor, signs)
    if exchange != unchanged_signs(floor) and has_reckoning(puzzle):
        raise NoMove("signs are not exchanged where a rule reckons with them")
    lines = [moved_line(rule, cells, exchange) for rule in puzzle.rules()]
    return Puzzle(moved_floor(floor, move), lines, moved_filling(floor, puzzle.clues(), move, exchange))

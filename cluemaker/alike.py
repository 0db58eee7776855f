"""Puzzles alike: the form of a puzzle, its plain form, and the move that leads from one puzzle to another."""

from cluemaker.errors import TooMany
from cluemaker.moves import MANY_MOVES, has_reckoning, is_exchange, moved, unchanged_signs
from cluemaker.rows import line_by
from cluemaker.seeker import every_filling

MOST_SIGNS = 4

# of these rules it makes no difference in which order their cells are told
IN_ANY_ORDER = ("unlike", "sum", "count")


def form_line(rule):
    name = rule.name()
    cells = sorted(rule.spots()) if name in IN_ANY_ORDER else rule.spots()
    return line_by(name, rule.number(), rule.sign(), cells)


def form(puzzle):
    return (puzzle.place(), sorted([form_line(rule) for rule in puzzle.rules()]), puzzle.clues())


def refuse_many_signs(puzzle):
    if puzzle.place()[2] > MOST_SIGNS:
        raise TooMany("puzzles are likened on floors of at most 4 signs")


# all that are not refused, rising
def exchanges(puzzle):
    floor = puzzle.place()
    signs = unchanged_signs(floor)
    if has_reckoning(puzzle):
        return [signs]
    return [order for order in every_filling([signs] * len(signs)) if is_exchange(floor, order)]


# tuples (move, signs), by move, then by signs
def moves_of(puzzle):
    found = []
    for move in range(MANY_MOVES):
        found.extend([(move, signs) for signs in exchanges(puzzle)])
    return found


def moved_form(puzzle, move):
    return form(moved(puzzle, move[0], move[1]))


def plain(puzzle):
    refuse_many_signs(puzzle)
    return min([moved_form(puzzle, move) for move in moves_of(puzzle)])


def alike(one, other):
    refuse_many_signs(one)
    refuse_many_signs(other)
    sought = form(other)
    for move in moves_of(one):
        if moved_form(one, move) == sought:
            return move
    return None

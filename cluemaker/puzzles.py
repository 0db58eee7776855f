"""Puzzles: a floor, rules and clues, and which fillings are their answers."""

from cluemaker.errors import NoFloor, NoPuzzle
from cluemaker.floors import floor_of, is_whole, many_cells
from cluemaker.rows import read_rule

MOST_RULES = 12


def checked_floor(floor):
    if not isinstance(floor, tuple) or len(floor) != 3:
        raise NoFloor("a floor is a tuple of three numbers")
    return floor_of(floor[0], floor[1], floor[2])


def read_rules(floor, lines):
    if len(lines) > MOST_RULES:
        raise NoPuzzle("a puzzle has at most 12 rules")
    return [read_rule(floor, line) for line in lines]


# least is 1 where a sign must be told at each cell, 0 where some may be left open
def is_filling(floor, filling, least):
    if not isinstance(filling, list) or len(filling) != many_cells(floor):
        return False
    return all([is_whole(sign) and least <= sign and sign <= floor[2] for sign in filling])


def checked_clues(floor, clues):
    if not is_filling(floor, clues, 0):
        raise NoPuzzle("the clues are no filling of the floor")
    return list(clues)


class Puzzle:
    def __init__(self, floor, lines, clues):
        # in this order, as the first refusal that is due goes first
        self.floor = checked_floor(floor)
        self.laws = read_rules(self.floor, lines)
        self.given = checked_clues(self.floor, clues)

    def place(self):
        return self.floor

    def lines(self):
        return [rule.line() for rule in self.laws]

    def clues(self):
        return list(self.given)

    def rules(self):
        return list(self.laws)

    def has_clues(self, filling):
        return all([clue == 0 or clue == sign for clue, sign in zip(self.given, filling)])

    def meets(self, filling):
        if not is_filling(self.floor, filling, 1) or not self.has_clues(filling):
            return False
        return all([rule.holds(filling) for rule in self.laws])

    def clued(self, clues):
        return Puzzle(self.floor, self.lines(), clues)

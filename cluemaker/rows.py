"""Rows of words, read as rules, and written."""

from cluemaker.errors import NoRule
from cluemaker.floors import many_cells
from cluemaker.rules import Count, Joined, NoSquare, Ring, Rising, Seen, Sum, Unlike

FIGURES = "0123456789"
MOST_FIGURES = 9
MOST_NUMBER = 99

# what stands behind a rule's first word: a number, then a sign, then cells, each where there is one
WITH_NUMBER = ("sum", "seen", "count")
WITH_SIGN = ("count", "joined", "nosquare", "ring")
OF_ALL_CELLS = ("joined", "nosquare", "ring")


# the row of words of the rule with these parts; what a rule of this name does not tell is left out
def line_by(name, amount, mark, cells):
    words = [name]
    if name in WITH_NUMBER:
        words.append(str(amount))
    if name in WITH_SIGN:
        words.append(str(mark))
    if name not in OF_ALL_CELLS:
        words.extend([str(cell) for cell in cells])
    return " ".join(words)


# None where the word tells no number
def number_in(word):
    if word == "" or len(word) > MOST_FIGURES or (word[0] == "0" and word != "0"):
        return None
    if not all([figure in FIGURES for figure in word]):
        return None
    return int(word)


def number_within(word, least, most):
    number = number_in(word)
    if number is None or number < least or number > most:
        raise NoRule("a number of the rule is none, or beyond its bounds")
    return number


def first_within(words, least, most):
    if words == []:
        raise NoRule("the rule has too few words")
    return number_within(words[0], least, most)


def told_cells(floor, words):
    cells = [number_within(word, 0, many_cells(floor) - 1) for word in words]
    if cells == []:
        raise NoRule("the rule tells no cell")
    if len(set(cells)) != len(cells):
        raise NoRule("the rule tells a cell twice")
    return cells


def cells_of(floor, name, words):
    if name not in OF_ALL_CELLS:
        return told_cells(floor, words)
    if words != []:
        raise NoRule("the rule has too many words")
    return list(range(many_cells(floor)))


def rule_by(floor, words, cells, amount, mark):
    name = words[0]
    if name == "unlike":
        return Unlike(floor, words, cells, amount, mark)
    if name == "sum":
        return Sum(floor, words, cells, amount, mark)
    if name == "rising":
        return Rising(floor, words, cells, amount, mark)
    if name == "seen":
        return Seen(floor, words, cells, amount, mark)
    if name == "count":
        return Count(floor, words, cells, amount, mark)
    if name == "joined":
        return Joined(floor, words, cells, amount, mark)
    if name == "nosquare":
        return NoSquare(floor, words, cells, amount, mark)
    if name == "ring":
        return Ring(floor, words, cells, amount, mark)
    raise NoRule("no rule begins with this word")


def read_rule(floor, line):
    if not isinstance(line, str):
        raise NoRule("a rule is read from a text")
    words = line.split(" ")
    name = words[0]
    rest = words[1:]
    amount = 0
    mark = 0
    if name in WITH_NUMBER:
        amount = first_within(rest, 0, MOST_NUMBER)
        rest = rest[1:]
    if name in WITH_SIGN:
        mark = first_within(rest, 1, floor[2])
        rest = rest[1:]
    return rule_by(floor, words, cells_of(floor, name, rest), amount, mark)

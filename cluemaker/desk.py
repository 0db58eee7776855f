"""The desk: puzzles kept by names, and rows of words that it answers with texts."""

from cluemaker.alike import alike
from cluemaker.books import follow
from cluemaker.errors import NoName, NoRow, NotOne
from cluemaker.fillings import read_filling, show_filling
from cluemaker.hints import hint, wrong
from cluemaker.kinds import KINDS
from cluemaker.maker import least
from cluemaker.masks import clashes, filling_by, is_settled, ways
from cluemaker.needed import needed
from cluemaker.solver import solve
from cluemaker.texts import read_book, read_puzzle, show_book, show_numbers, show_puzzle, show_thought

WITH_TEXT = ("puzzle", "check", "hint", "wrong")
WITH_NAME = ("drop", "show", "solve", "book", "needs", "least")
WITH_TWO_NAMES = ("alike",)

LETTERS = "abcdefghijklmnopqrstuvwxyz"
MOST_LETTERS = 8


# all that stands behind the second blank of a row is one text, whatever blanks it has
def words_of(row):
    if not isinstance(row, str):
        raise NoRow("a row is a text")
    words = row.split(" ")
    if words[0] in WITH_TEXT and len(words) >= 3:
        return [words[0], words[1], " ".join(words[2:])]
    if words[0] in WITH_NAME and len(words) == 2:
        return words
    if words[0] in WITH_TWO_NAMES and len(words) == 3:
        return words
    raise NoRow("this is none of the desk's rows")


def is_name(word):
    return 1 <= len(word) and len(word) <= MOST_LETTERS and all([letter in LETTERS for letter in word])


def tell_solved(puzzle):
    floor = puzzle.place()
    told = solve(puzzle)
    if told[0] == "one":
        return "one " + show_filling(floor, told[1])
    if told[0] == "two":
        return "two " + show_filling(floor, told[1]) + " " + show_filling(floor, told[2])
    return told[0]


def tell_book(puzzle):
    told = solve(puzzle)
    if told[0] == "two":
        raise NotOne("of two answers there is no book")
    # the book is told last, whatever stands ahead of it
    return show_book(told[-1])


def tell_checked(puzzle, text):
    masks = follow(puzzle, read_book(text))
    if clashes(masks):
        return "none"
    if is_settled(masks):
        return "one " + show_filling(puzzle.place(), filling_by(masks))
    return "open " + str(ways(masks))


def tell_needed(puzzle):
    told = needed(puzzle)
    if told is None:
        return "more"
    return " ".join(told[0]) if told[0] != [] else "nothing"


def tell_least(puzzle):
    told = least(puzzle)
    return told[0] if told[0] == "least" else told[0] + " " + str(told[1])


def tell_hint(puzzle, text):
    thought = hint(puzzle, read_filling(puzzle.place(), text))
    return show_thought(thought) if thought is not None else "nothing"


def tell_wrong(puzzle, text):
    told = wrong(puzzle, read_filling(puzzle.place(), text), KINDS)
    if told is None:
        return "nothing"
    return show_numbers(told[0]) if told[0] != [] else "clues"


def tell_alike(one, other):
    return "no" if alike(one, other) is None else "yes"


def tell_of(puzzle, word):
    if word == "show":
        return show_puzzle(puzzle)
    if word == "solve":
        return tell_solved(puzzle)
    if word == "book":
        return tell_book(puzzle)
    if word == "needs":
        return tell_needed(puzzle)
    return tell_least(puzzle)


def tell_by_text(puzzle, word, text):
    if word == "check":
        return tell_checked(puzzle, text)
    if word == "hint":
        return tell_hint(puzzle, text)
    return tell_wrong(puzzle, text)


class Desk:
    def __init__(self):
        self.kept = {}

    def say(self, row):
        words = words_of(row)
        if words[0] == "puzzle":
            return self.put(words[1], words[2])
        puzzle = self.named(words[1])
        if words[0] == "drop":
            return self.drop(words[1])
        if words[0] in WITH_NAME:
            return tell_of(puzzle, words[0])
        if words[0] in WITH_TEXT:
            return tell_by_text(puzzle, words[0], words[2])
        return tell_alike(puzzle, self.named(words[2]))

    def named(self, name):
        if name not in self.kept:
            raise NoName("no puzzle stands by this name")
        return self.kept[name]

    def put(self, name, text):
        if not is_name(name):
            raise NoName("a name has one to eight small letters")
        # read first: a text that is refused leaves the puzzle that stood here
        self.kept[name] = read_puzzle(text)
        return "ok"

    def drop(self, name):
        self.kept.pop(name)
        return "ok"

"""Puzzles and books as texts, and texts as puzzles and books."""

from cluemaker.books import SUPPOSE
from cluemaker.errors import NoText
from cluemaker.fillings import read_filling, show_filling
from cluemaker.floors import floor_of, many_cells
from cluemaker.kinds import KINDS
from cluemaker.puzzles import Puzzle
from cluemaker.rows import number_in

BETWEEN_PARTS = " | "
BETWEEN_ROWS = "; "
MOST_BOOKS = 16


def show_numbers(numbers):
    return " ".join([str(number) for number in numbers])


def show_puzzle(puzzle):
    floor = puzzle.place()
    rules = BETWEEN_ROWS.join(puzzle.lines())
    return BETWEEN_PARTS.join([show_numbers(floor), rules, show_filling(floor, puzzle.clues())])


def refuse_no_text(text):
    if not isinstance(text, str):
        raise NoText("only a text is read")


def read_numbers(words):
    numbers = [number_in(word) for word in words]
    if None in numbers:
        raise NoText("a number has one to nine figures, without noughts ahead")
    return numbers


def read_floor(text):
    numbers = read_numbers(text.split(" "))
    if len(numbers) != 3:
        raise NoText("a floor is told by three numbers")
    return floor_of(numbers[0], numbers[1], numbers[2])


def read_puzzle(text):
    refuse_no_text(text)
    parts = text.split(BETWEEN_PARTS)
    if len(parts) != 3:
        raise NoText("a puzzle's text has three parts")
    floor = read_floor(parts[0])
    lines = parts[1].split(BETWEEN_ROWS) if parts[1] != "" else []
    # without clues first, as rules are refused ahead of clues
    bare = Puzzle(floor, lines, [0] * many_cells(floor))
    return bare.clued(read_filling(floor, parts[2]))


def show_thought(thought):
    head = [thought[0], show_numbers(thought[1:4])]
    if thought[0] == SUPPOSE:
        return " ".join(head + ["(" + show_book(thought[4]) + ")"])
    return " ".join(head + [str(number) for number in thought[4]])


def show_book(book):
    return BETWEEN_ROWS.join([show_thought(thought) for thought in book])


# the texts of the thoughts of a book, those inside of supposings left together
def thought_texts(text):
    found = []
    held = []
    unclosed = 0
    for piece in text.split(BETWEEN_ROWS):
        held.append(piece)
        unclosed = unclosed + piece.count("(") - piece.count(")")
        if unclosed == 0:
            found.append(BETWEEN_ROWS.join(held))
            held = []
    if held != []:
        raise NoText("the brackets of the book do not close")
    return found


def read_plain(text):
    words = text.split(" ")
    if words[0] not in KINDS or len(words) < 4:
        raise NoText("a thought has a kind, a rule, a cell and a sign")
    numbers = read_numbers(words[1:])
    return (words[0], numbers[0], numbers[1], numbers[2], numbers[3:])


# depth is the number of the books that lie around it
def read_supposing(text, depth):
    parts = text.partition(" (")
    words = parts[0].split(" ")
    if len(words) != 4 or not parts[2].endswith(")"):
        raise NoText("a supposing has a rule, a cell, a sign and a book in brackets")
    numbers = read_numbers(words[1:])
    return (SUPPOSE, numbers[0], numbers[1], numbers[2], read_inner(parts[2][:-1], depth + 1))


def read_thought(text, depth):
    if text.startswith(SUPPOSE + " "):
        return read_supposing(text, depth)
    return read_plain(text)


# depth is the number of books in one another, this one counted
def read_inner(text, depth):
    if depth > MOST_BOOKS:
        raise NoText("at most sixteen books lie in one another")
    if text == "":
        return []
    return [read_thought(part, depth) for part in thought_texts(text)]


def read_book(text):
    refuse_no_text(text)
    return read_inner(text, 1)

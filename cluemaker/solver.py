"""Solving: a puzzle has one answer, two, or none, each told with what shows it; or it rests."""

from cluemaker.books import SUPPOSE, supposed
from cluemaker.kinds import KINDS
from cluemaker.masks import clashes, full, is_settled, signs_in, struck, ways
from cluemaker.seeker import every_filling
from cluemaker.thinking import think

MOST_WAYS_LEFT = 32


def answers_within(puzzle, masks):
    return [filling for filling in every_filling([signs_in(mask) for mask in masks]) if puzzle.meets(filling)]


def first_open(masks):
    return [cell for cell, mask in enumerate(masks) if len(signs_in(mask)) > 1][0]


# a supposing that strikes the sign, as none of the answers within the masks has it at the cell
def refuting(puzzle, masks, cell, sign):
    return (SUPPOSE, 0, cell, sign, book_to_clash(puzzle, supposed(masks, cell, sign)))


# A book to a clash, from masks without an answer within them. At a standstill without a clash some cell is open, as
# all kinds together leave no settled masks but answers; each supposing halves the ways at least, so this ends.
def book_to_clash(puzzle, masks):
    found = think(puzzle, masks, KINDS)
    now = found[0]
    if clashes(now):
        return found[1]
    cell = first_open(now)
    return found[1] + [refuting(puzzle, now, cell, sign) for sign in signs_in(now[cell])]


# a book to the answer, the only one within the masks, a standstill
def book_to_answer(puzzle, masks, answer):
    now = masks
    book = []
    while not is_settled(now):
        cell = first_open(now)
        sign = [other for other in signs_in(now[cell]) if other != answer[cell]][0]
        book.append(refuting(puzzle, now, cell, sign))
        found = think(puzzle, struck(now, cell, sign), KINDS)
        now = found[0]
        book.extend(found[1])
    return book


def solve(puzzle):
    found = think(puzzle, full(puzzle.place()), KINDS)
    masks = found[0]
    book = found[1]
    if clashes(masks):
        return ("none", book)
    if ways(masks) > MOST_WAYS_LEFT:
        return ("rests", masks, book)
    left = answers_within(puzzle, masks)
    if left == []:
        return ("none", book + book_to_clash(puzzle, masks))
    if len(left) == 1:
        return ("one", left[0], book + book_to_answer(puzzle, masks, left[0]))
    return ("two", left[0], left[1])

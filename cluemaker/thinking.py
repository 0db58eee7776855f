"""Thinking: the next thought from masks, and what is come to by going on until nothing more can be struck."""

from cluemaker.finding import found_by_rule, rule_numbers
from cluemaker.kinds import KINDS
from cluemaker.masks import clashes, struck


# the thoughts of the first kind, by the first rule, that has any
def first_found(puzzle, masks, kinds):
    for kind in [word for word in KINDS if word in kinds]:
        for number in rule_numbers(puzzle, kind):
            found = found_by_rule(puzzle, masks, kind, number)
            if found != []:
                return found
    return []


def next_thought(puzzle, masks, kinds):
    found = first_found(puzzle, masks, kinds) if not clashes(masks) else []
    return found[0] if found != [] else None


def think(puzzle, masks, kinds):
    now = list(masks)
    book = []
    while not clashes(now):
        found = first_found(puzzle, now, kinds)
        if found == []:
            return (now, book)
        for thought in found:
            book.append(thought)
            now = struck(now, thought[2], thought[3])
    return (now, book)

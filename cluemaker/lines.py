"""Thoughts by clues, and by rules of cells told one behind the other: clue, only, place, step, pair."""

from cluemaker.kinds import is_formed, is_sign, many_may, masks_at, others
from cluemaker.masks import has_only, signs_in

LINE_KINDS = ("clue", "only", "place", "step", "pair")


def clue_strikes(clues, cell, sign, more):
    return more == [] and clues[cell] != 0 and clues[cell] != sign


def only_strikes(rule, masks, cell, sign, more):
    return len(more) == 1 and more[0] in others(rule, cell) and has_only(masks[more[0]], sign)


def place_strikes(floor, rule, masks, cell, sign, more):
    # with fewer cells than signs a sign may well stand at none of them
    if len(rule.spots()) != floor[2] or len(more) != 1:
        return False
    if more[0] == sign or not is_sign(floor, more[0]):
        return False
    return many_may(masks_at(masks, others(rule, cell)), more[0]) == 0


# the cell told ahead and the next one, each as a list with that cell, or without it where there is none
def ahead_of(rule, cell):
    spots = rule.spots()
    place = spots.index(cell)
    return spots[place - 1:place] if place > 0 else []


def behind(rule, cell):
    spots = rule.spots()
    place = spots.index(cell)
    return spots[place + 1:place + 2]


def is_no_greater(sign, mask):
    return all([sign <= other for other in signs_in(mask)])


def is_no_less(sign, mask):
    return all([sign >= other for other in signs_in(mask)])


def step_strikes(rule, masks, cell, sign, more):
    if more != []:
        return False
    if any([is_no_greater(sign, masks[other]) for other in ahead_of(rule, cell)]):
        return True
    return any([is_no_less(sign, masks[other]) for other in behind(rule, cell)])


def are_told_in_order(cells, more):
    if len(more) != 2 or more[0] not in cells or more[1] not in cells:
        return False
    return cells.index(more[0]) < cells.index(more[1])


def pair_strikes(rule, masks, cell, sign, more):
    if not are_told_in_order(others(rule, cell), more):
        return False
    together = signs_in(masks[more[0]] | masks[more[1]])
    return len([other for other in together if other != sign]) <= 1


# whether a thought of a kind of this file is let by from the masks, its form being as told (is_formed)
def strikes_by_line(puzzle, masks, thought):
    kind = thought[0]
    cell = thought[2]
    sign = thought[3]
    more = thought[4]
    if kind == "clue":
        return clue_strikes(puzzle.clues(), cell, sign, more)
    rule = puzzle.rules()[thought[1]]
    if kind == "only":
        return only_strikes(rule, masks, cell, sign, more)
    if kind == "place":
        return place_strikes(puzzle.place(), rule, masks, cell, sign, more)
    if kind == "step":
        return step_strikes(rule, masks, cell, sign, more)
    return pair_strikes(rule, masks, cell, sign, more)


# as above, of any thought: False of one that has another form or kind
def allowed_by_line(puzzle, masks, thought):
    return is_formed(puzzle, thought) and thought[0] in LINE_KINDS and strikes_by_line(puzzle, masks, thought)


# the cells on which a thought of a kind of this file rests, its parts being as told of its kind
def rests_by_line(puzzle, thought):
    kind = thought[0]
    if kind == "clue":
        return []
    if kind == "only" or kind == "pair":
        return sorted(thought[4])
    rule = puzzle.rules()[thought[1]]
    if kind == "place":
        return sorted(others(rule, thought[2]))
    return sorted(ahead_of(rule, thought[2]) + behind(rule, thought[2]))

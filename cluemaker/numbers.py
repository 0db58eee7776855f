"""Thoughts by numbers: count, sum, ways."""

from cluemaker.kinds import is_formed, many_may, many_only, masks_at, others
from cluemaker.masks import clashes, signs_in, ways

NUMBER_KINDS = ("count", "sum", "ways")
MOST_WAYS = 32


def count_strikes(rule, masks, cell, sign, more):
    if more != []:
        return False
    some = masks_at(masks, others(rule, cell))
    if sign == rule.sign():
        return many_only(some, sign) >= rule.number()
    return many_may(some, rule.sign()) < rule.number()


def sum_strikes(rule, masks, cell, sign, more):
    if more != []:
        return False
    some = masks_at(masks, others(rule, cell))
    if clashes(some):
        return True
    least = sign + sum([signs_in(mask)[0] for mask in some])
    greatest = sign + sum([signs_in(mask)[-1] for mask in some])
    return least > rule.number() or greatest < rule.number()


def with_sign(filling, cell, sign):
    return [sign if place == cell else other for place, other in enumerate(filling)]


def with_each_sign(fillings, cell, signs):
    found = []
    for filling in fillings:
        found.extend([with_sign(filling, cell, sign) for sign in signs])
    return found


def ways_strikes(rule, masks, cell, sign, more):
    rest = others(rule, cell)
    some = masks_at(masks, rest)
    if more != [] or ways(some) > MOST_WAYS:
        return False
    # without this the ways of the others could be made by the million, ahead of the cell that leaves none
    if clashes(some):
        return True
    fillings = [with_sign([0] * len(masks), cell, sign)]
    for other in rest:
        fillings = with_each_sign(fillings, other, signs_in(masks[other]))
    for filling in fillings:
        if rule.holds(filling):
            return False
    return True


# whether a thought of a kind of this file is let by from the masks, its form being as told (is_formed)
def strikes_by_number(puzzle, masks, thought):
    rule = puzzle.rules()[thought[1]]
    if thought[0] == "count":
        return count_strikes(rule, masks, thought[2], thought[3], thought[4])
    if thought[0] == "sum":
        return sum_strikes(rule, masks, thought[2], thought[3], thought[4])
    return ways_strikes(rule, masks, thought[2], thought[3], thought[4])


# as above, of any thought: False of one that has another form or kind
def allowed_by_number(puzzle, masks, thought):
    return is_formed(puzzle, thought) and thought[0] in NUMBER_KINDS and strikes_by_number(puzzle, masks, thought)


# the cells on which a thought of a kind of this file rests, its parts being as told of its kind
def rests_by_number(puzzle, thought):
    return sorted(others(puzzle.rules()[thought[1]], thought[2]))

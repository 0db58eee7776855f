"""The kinds of plain thoughts: their order, and what the form of a thought must be whatever its kind.

A thought is a tuple (kind, rule, cell, sign, more). What each kind asks beside its form, and what it rests on, stands
in cluemaker.lines, cluemaker.numbers and cluemaker.regions.
"""

from cluemaker.floors import is_from_one_to, is_whole, many_cells
from cluemaker.masks import has_only, stands

KINDS = ("clue", "only", "place", "count", "step", "sum", "square", "reach", "turn", "pair", "ways")

# the rules by which a kind strikes; clue needs none, and ways goes by any
RULES_OF_KIND = {
    "only": ("unlike",),
    "place": ("unlike",),
    "count": ("count",),
    "step": ("rising",),
    "sum": ("sum",),
    "square": ("nosquare",),
    "reach": ("joined", "ring"),
    "turn": ("ring",),
    "pair": ("unlike",),
}


def is_cell(floor, value):
    return is_whole(value) and 0 <= value and value < many_cells(floor)


def is_sign(floor, value):
    return is_from_one_to(value, floor[2])


def goes_by(kind, rule):
    return kind == "ways" or rule.name() in RULES_OF_KIND[kind]


def has_its_rule(puzzle, kind, number, cell):
    if not is_whole(number) or number < 0:
        return False
    if kind == "clue":
        return number == 0
    rules = puzzle.rules()
    if number >= len(rules):
        return False
    return goes_by(kind, rules[number]) and cell in rules[number].spots()


def is_formed(puzzle, thought):
    if not isinstance(thought, tuple) or len(thought) != 5 or thought[0] not in KINDS:
        return False
    floor = puzzle.place()
    if not is_cell(floor, thought[2]) or not is_sign(floor, thought[3]):
        return False
    if not has_its_rule(puzzle, thought[0], thought[1], thought[2]):
        return False
    # every plain kind has numbers alone in more; how many, and which, each kind asks by itself
    return isinstance(thought[4], list) and all([is_whole(part) for part in thought[4]])


def others(rule, cell):
    return [spot for spot in rule.spots() if spot != cell]


def masks_at(masks, cells):
    return [masks[cell] for cell in cells]


def many_only(some, sign):
    return len([mask for mask in some if has_only(mask, sign)])


def many_may(some, sign):
    return len([mask for mask in some if stands(mask, sign)])

"""Books of thoughts, supposings among them: whether they are let by, and the masks that they lead to."""

from cluemaker.errors import BadThought
from cluemaker.floors import is_whole
from cluemaker.kinds import is_cell, is_sign
from cluemaker.masks import bit_of, clashes, full, stands, struck
from cluemaker.thoughts import allowed, rests_on

SUPPOSE = "suppose"


def has_parts(thought):
    return isinstance(thought, tuple) and len(thought) == 5


def is_supposing(thought):
    return has_parts(thought) and thought[0] == SUPPOSE


def strikes_on_floor(puzzle, thought):
    floor = puzzle.place()
    return has_parts(thought) and is_cell(floor, thought[2]) and is_sign(floor, thought[3])


def is_formed_supposing(puzzle, thought):
    if not is_whole(thought[1]) or thought[1] != 0 or not strikes_on_floor(puzzle, thought):
        return False
    return isinstance(thought[4], list) and thought[4] != []


def supposed(masks, cell, sign):
    return [bit_of(sign) if place == cell else mask for place, mask in enumerate(masks)]


def is_passed_over(puzzle, masks, thought):
    return strikes_on_floor(puzzle, thought) and not stands(masks[thought[2]], thought[3])


# None where the thought is let by; else the places, within it, of the thought that is not: [] where it is this one
def fault_in(puzzle, masks, thought):
    if not is_supposing(thought):
        return None if allowed(puzzle, masks, thought) else []
    if not is_formed_supposing(puzzle, thought):
        return []
    now = supposed(masks, thought[2], thought[3])
    for place, inner in enumerate(thought[4]):
        # all that stands behind a clash is passed over
        if clashes(now):
            return None
        if not is_passed_over(puzzle, now, inner):
            fault = fault_in(puzzle, now, inner)
            if fault is not None:
                return [place] + fault
            now = struck(now, inner[2], inner[3])
    return None if clashes(now) else []


def let_by(puzzle, masks, thought):
    return fault_in(puzzle, masks, thought) is None


def strikes_what_stands(puzzle, masks, thought):
    return strikes_on_floor(puzzle, thought) and stands(masks[thought[2]], thought[3])


def follow_from(puzzle, masks, book):
    now = list(masks)
    for place, thought in enumerate(book):
        if clashes(now) or not strikes_what_stands(puzzle, now, thought):
            raise BadThought([place])
        fault = fault_in(puzzle, now, thought)
        if fault is not None:
            raise BadThought([place] + fault)
        now = struck(now, thought[2], thought[3])
    return now


def follow(puzzle, book):
    return follow_from(puzzle, full(puzzle.place()), book)


def bears_on(puzzle, thought):
    if thought[0] != SUPPOSE:
        return rests_on(puzzle, thought)
    cells = []
    for inner in thought[4]:
        cells.append(inner[2])
        cells.extend(bears_on(puzzle, inner))
    return sorted(set([cell for cell in cells if cell != thought[2]]))

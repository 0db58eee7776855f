"""What holds for all kinds of plain thoughts together, over small puzzles whose answers are found by going through all
fillings: no thought that is let by strikes out what stands in an answer; what is let by from masks is let by from all
masks within them; and whether it is let by hangs on the cells that it rests on alone."""

import itertools
import random
import unittest

from cluemaker.kinds import KINDS
from cluemaker.puzzles import Puzzle
from cluemaker.thoughts import allowed, rests_on

# the random source has a fixed seed, so that every run asks the same
ROUNDS = 30

PUZZLES = [
    ((1, 3, 3), ["unlike 2 0 1"], [0, 0, 0]),
    ((1, 3, 3), ["unlike 2 0 1", "rising 1 2"], [0, 2, 0]),
    ((1, 4, 3), ["unlike 3 0 2", "rising 0 1 3", "sum 4 1 2", "seen 1 3 2 1 0", "count 1 2 0 2 3"], [0, 0, 0, 0]),
    ((1, 4, 3), ["unlike 3 0", "rising 0 1", "sum 7 1 2 3", "seen 2 2 0 3", "count 1 2 0 2 3"], [0, 0, 0, 0]),
    ((1, 4, 4), ["seen 2 0 1 2 3", "rising 2 0 1"], [0, 0, 0, 0]),
    ((2, 2, 3), ["sum 7 0 1 2 3", "count 2 1 3 0 1", "unlike 1 3"], [0, 0, 0, 1]),
    ((2, 2, 3), ["unlike 0 1 3", "unlike 2 0 1", "sum 4 3 2"], [0, 0, 0, 0]),
    ((2, 2, 4), ["unlike 3 2 1 0", "rising 0 3"], [0, 0, 0, 0]),
    ((2, 2, 2), ["unlike 0 1", "unlike 1 3", "unlike 3 2", "unlike 2 0"], [0, 0, 0, 0]),
    ((2, 2, 2), ["joined 1", "nosquare 1", "joined 2"], [0, 0, 0, 0]),
    ((2, 2, 2), ["ring 1"], [0, 0, 0, 0]),
    ((2, 3, 2), ["ring 1", "nosquare 2", "joined 2"], [0, 0, 0, 0, 0, 0]),
    ((3, 3, 2), ["joined 1", "nosquare 1", "nosquare 2", "joined 2"], [0] * 9),
    ((3, 3, 2), ["ring 1"], [0] * 9),
    ((3, 3, 2), ["ring 2", "count 4 2 0 1 2 3 4 5 6 7 8", "joined 1"], [0] * 9),
    ((3, 3, 2), ["ring 1", "sum 10 0 1 2 3 4 5 6 7 8"], [1] + [0] * 8),
    ((2, 4, 2), ["joined 1", "count 3 1 0 3 4 7", "nosquare 2"], [0] * 8),
    ((2, 3, 3), ["joined 3", "ring 1", "unlike 5 0"], [0] * 6),
]
NAMES = {
    "only": ["unlike"], "place": ["unlike"], "count": ["count"], "step": ["rising"], "sum": ["sum"],
    "square": ["nosquare"], "reach": ["joined", "ring"], "turn": ["ring"], "pair": ["unlike"],
    "ways": ["unlike", "sum", "rising", "seen", "count", "joined", "nosquare", "ring"],
}


def answers_of(floor, lines, clues):
    puzzle = Puzzle(floor, lines, clues)
    told = [[clue] if clue else list(range(1, floor[2] + 1)) for clue in clues]
    return [list(filling) for filling in itertools.product(*told)
            if all(rule.holds(list(filling)) for rule in puzzle.rules())]


def mores_of(floor, kind, rule, cell, sign):
    """The mores whose form is as told of the kind."""
    cells = [other for other in range(floor[0] * floor[1]) if other != cell]
    if kind == "only":
        return [[other] for other in rule.spots() if other != cell]
    if kind == "place":
        return [[other] for other in range(1, floor[2] + 1) if other != sign]
    if kind == "pair":
        return [list(two) for two in itertools.combinations([other for other in rule.spots() if other != cell], 2)]
    if kind == "square":
        wide = floor[1]
        corners = [cell, cell - 1, cell - wide, cell - wide - 1]
        return [[one] for one in corners if one >= 0 and one % wide < wide - 1 and one + wide + 1 < wide * floor[0]
                and cell in (one, one + 1, one + wide, one + wide + 1)]
    if kind == "reach":
        many = 1 if sign == rule.sign() else 2
        return [list(some) for some in itertools.permutations(cells, many)]
    if kind == "turn":
        wide = floor[1]
        near = [other for other in cells if abs(other // wide - cell // wide) + abs(other % wide - cell % wide) == 1]
        return [[]] + [[other] for other in near]
    return [[]]


def thoughts_of(puzzle):
    floor = puzzle.place()
    signs = range(1, floor[2] + 1)
    found = [("clue", 0, cell, sign, []) for cell in range(floor[0] * floor[1]) for sign in signs]
    for kind in KINDS[1:]:
        for number, rule in enumerate(puzzle.rules()):
            if rule.name() in NAMES[kind]:
                for cell, sign in itertools.product(rule.spots(), signs):
                    found += [(kind, number, cell, sign, more) for more in mores_of(floor, kind, rule, cell, sign)]
    return found


def masks_round(chance, floor, answer, density):
    """Masks that leave the answer, and by chance some other signs."""
    masks = []
    for sign in answer:
        mask = 2 ** (sign - 1)
        for other in range(floor[2]):
            if chance.random() < density:
                mask |= 2 ** other
        masks.append(mask)
    return masks


def masks_within(chance, masks):
    return [mask if chance.random() < 0.5 else mask & chance.randrange(64) for mask in masks]


def lies_in(answer, masks):
    return all(mask & 2 ** (sign - 1) for sign, mask in zip(answer, masks))


class Together(unittest.TestCase):
    def rounds(self):
        chance = random.Random(20)
        for floor, lines, clues in PUZZLES:
            answers = answers_of(floor, lines, clues)
            self.assertNotEqual(answers, [], lines)
            puzzle = Puzzle(floor, lines, clues)
            thoughts = thoughts_of(puzzle)
            for turn in range(ROUNDS):
                masks = masks_round(chance, floor, chance.choice(answers), turn / ROUNDS)
                let_by = [thought for thought in thoughts if allowed(puzzle, masks, thought)]
                yield chance, puzzle, answers, masks, thoughts, let_by

    def test_no_answer_is_struck(self):
        kinds = {}
        for chance, puzzle, answers, masks, thoughts, let_by in self.rounds():
            left = [answer for answer in answers if lies_in(answer, masks)]
            self.assertNotEqual(left, [])
            for thought in let_by:
                kind, rule, cell, sign, more = thought
                kinds[kind] = kinds.get(kind, 0) + 1
                for answer in left:
                    self.assertNotEqual(answer[cell], sign, (puzzle.lines(), masks, thought, answer))
        for kind in KINDS:
            self.assertGreater(kinds.get(kind, 0), 10, kind)

    def test_within_the_masks_it_stays_let_by(self):
        for chance, puzzle, answers, masks, thoughts, let_by in self.rounds():
            for turn in range(4):
                fewer = masks_within(chance, masks)
                for thought in let_by:
                    self.assertIs(allowed(puzzle, fewer, thought), True, (puzzle.lines(), masks, fewer, thought))
            for thought in let_by:
                self.assertIs(allowed(puzzle, [0] * len(masks), thought), True, (puzzle.lines(), masks, thought))

    def test_it_hangs_on_what_it_rests_on_alone(self):
        for chance, puzzle, answers, masks, thoughts, let_by in self.rounds():
            most = 2 ** puzzle.place()[2]
            others = [chance.randrange(most) for mask in masks]
            for thought in chance.sample(thoughts, min(40, len(thoughts))):
                cells = rests_on(puzzle, thought)
                self.assertEqual(cells, sorted(set(cells)))
                self.assertNotIn(thought[2], cells)
                mixed = [mask if cell in cells else others[cell] for cell, mask in enumerate(masks)]
                self.assertIs(allowed(puzzle, mixed, thought), thought in let_by, (puzzle.lines(), masks, thought))

    def test_where_all_is_open_and_where_an_answer_is_settled(self):
        for floor, lines, clues in PUZZLES:
            puzzle = Puzzle(floor, lines, clues)
            answers = answers_of(floor, lines, clues)
            thoughts = thoughts_of(puzzle)
            full = [2 ** floor[2] - 1] * len(clues)
            for thought in thoughts:
                if allowed(puzzle, full, thought):
                    self.assertNotIn(thought[3], [answer[thought[2]] for answer in answers], (lines, thought))
            for answer in answers[:20]:
                masks = [2 ** (sign - 1) for sign in answer]
                for thought in thoughts:
                    if thought[3] == answer[thought[2]]:
                        self.assertIs(allowed(puzzle, masks, thought), False, (lines, answer, thought))


class Every(unittest.TestCase):
    """All masks of very small puzzles, and all masks within them."""

    def check(self, floor, lines):
        puzzle = Puzzle(floor, lines, [0] * (floor[0] * floor[1]))
        answers = answers_of(floor, lines, puzzle.clues())
        every = list(itertools.product(range(2 ** floor[2]), repeat=floor[0] * floor[1]))
        for thought in thoughts_of(puzzle):
            let_by = {masks for masks in every if allowed(puzzle, list(masks), thought)}
            for masks in let_by:
                for answer in answers:
                    if lies_in(answer, masks):
                        self.assertNotEqual(answer[thought[2]], thought[3], (lines, masks, thought))
                for cell, mask in enumerate(masks):
                    for sign in range(floor[2]):
                        # to strike one sign after the other leads to all masks within
                        fewer = masks[:cell] + (mask & ~2 ** sign,) + masks[cell + 1:]
                        self.assertIn(fewer, let_by, (lines, masks, thought))

    def test_a_row_of_three(self):
        self.check((1, 3, 2), ["unlike 0 2", "rising 2 1", "sum 4 0 1 2", "seen 2 1 0", "count 1 2 2 0"])

    def test_two_by_two(self):
        self.check((2, 2, 2), ["joined 1", "nosquare 2", "ring 1"])

    def test_three_signs(self):
        self.check((1, 3, 3), ["unlike 1 0 2", "joined 2"])


if __name__ == "__main__":
    unittest.main()

"""Plain thoughts of every kind (points 11 and 12): whether they are let by, compared with another telling of the same
words, and the cells that they rest on. No thought is refused, whatever its parts are."""

import copy
import itertools
import random
import unittest

from cluemaker.puzzles import Puzzle
from cluemaker.thoughts import allowed, rests_on

KINDS = ["clue", "only", "place", "count", "step", "sum", "square", "reach", "turn", "pair", "ways"]
FAR = [-1, -2, -17, 16, 17, 99, 10 ** 59, 10 ** 60 - 1, -10 ** 60 + 1]

NAMES = {
    "only": ["unlike"], "place": ["unlike"], "count": ["count"], "step": ["rising"], "sum": ["sum"],
    "square": ["nosquare"], "reach": ["joined", "ring"], "turn": ["ring"], "pair": ["unlike"],
}
LENGTHS = {"only": [1], "place": [1], "square": [1], "reach": [1, 2], "turn": [0, 1], "pair": [2]}

FLOOR = (2, 3, 3)
LINES = ["unlike 2 0 1", "count 1 3 0 1 3", "rising 1 0 4", "sum 5 0 1", "nosquare 1", "joined 1", "ring 1", "seen 2 0 1"]
PUZZLE = Puzzle(FLOOR, LINES, [2, 0, 0, 0, 0, 0])

# a thought, masks from which it is let by, masks from which it is not, the cells that it rests on
TOLD = [
    (("only", 0, 0, 1, [2]), [7, 7, 1, 7, 7, 7], [7, 7, 3, 7, 7, 7], [2]),
    (("only", 0, 0, 1, [2]), [7, 7, 0, 7, 7, 7], [7, 7, 2, 7, 7, 7], [2]),
    (("place", 0, 0, 1, [3]), [7, 3, 3, 7, 7, 7], [7, 3, 7, 7, 7, 7], [1, 2]),
    (("place", 0, 1, 3, [2]), [5, 7, 5, 7, 7, 7], [7, 7, 5, 7, 7, 7], [0, 2]),
    (("count", 1, 0, 3, []), [7, 4, 7, 7, 7, 7], [7, 6, 7, 7, 7, 7], [1, 3]),
    (("count", 1, 0, 2, []), [7, 3, 7, 3, 7, 7], [7, 3, 7, 7, 7, 7], [1, 3]),
    (("step", 2, 0, 1, []), [7, 7, 7, 7, 7, 7], None, [1, 4]),
    (("step", 2, 1, 3, []), [7, 7, 7, 7, 7, 7], None, [0]),
    (("step", 2, 1, 2, []), [3, 7, 7, 7, 7, 7], [7, 7, 7, 7, 7, 7], [0]),
    (("step", 2, 4, 2, []), [6, 7, 7, 7, 7, 7], [7, 7, 7, 7, 7, 7], [0]),
    (("sum", 3, 0, 1, []), [7, 7, 7, 7, 7, 7], None, [1]),
    (("sum", 3, 0, 3, []), [7, 1, 7, 7, 7, 7], [7, 5, 7, 7, 7, 7], [1]),
    (("square", 4, 0, 1, [0]), [7, 1, 7, 1, 1, 7], [7, 1, 7, 1, 3, 7], [1, 3, 4]),
    (("square", 4, 4, 1, [1]), [7, 1, 1, 7, 7, 1], [7, 3, 1, 7, 7, 1], [1, 2, 5]),
    (("reach", 5, 0, 1, [5]), [7, 6, 7, 6, 7, 1], [7, 6, 7, 7, 7, 1], [1, 2, 3, 4, 5]),
    (("reach", 5, 1, 3, [0, 2]), [1, 7, 1, 6, 7, 7], [1, 7, 1, 7, 7, 7], [0, 2, 3, 4, 5]),
    (("reach", 6, 4, 2, [5, 3]), [6, 7, 7, 1, 7, 1], [7, 7, 7, 1, 7, 1], [0, 1, 2, 3, 5]),
    (("turn", 6, 0, 1, []), [7, 6, 7, 7, 7, 7], [7, 7, 7, 7, 7, 7], [1, 3]),
    (("turn", 6, 1, 1, []), [1, 7, 1, 7, 1, 7], [1, 7, 3, 7, 1, 7], [0, 2, 4]),
    (("turn", 6, 0, 1, [1]), [7, 1, 1, 7, 1, 7], [7, 1, 1, 7, 3, 7], [1, 2, 4]),
    (("turn", 6, 4, 2, [5]), [7, 7, 6, 7, 7, 1], None, [2, 5]),
    (("turn", 6, 4, 2, [1]), [6, 1, 7, 7, 7, 7], [7, 1, 7, 7, 7, 7], [0, 1, 2]),
    (("pair", 0, 1, 1, [2, 0]), [3, 7, 3, 7, 7, 7], [3, 7, 7, 7, 7, 7], [0, 2]),
    (("pair", 0, 0, 2, [2, 1]), [7, 6, 2, 7, 7, 7], [7, 1, 4, 7, 7, 7], [1, 2]),
    (("ways", 3, 0, 1, []), [7, 7, 7, 7, 7, 7], None, [1]),
    (("ways", 7, 0, 3, []), [7, 7, 7, 7, 7, 7], None, [1]),
    (("ways", 7, 0, 2, []), [7, 3, 7, 7, 7, 7], [7, 7, 7, 7, 7, 7], [1]),
    (("ways", 0, 1, 1, []), [1, 7, 7, 7, 7, 7], [7, 7, 7, 7, 7, 7], [0, 2]),
    (("clue", 0, 0, 1, []), [7, 7, 7, 7, 7, 7], None, []),
    (("clue", 0, 0, 3, []), [0, 0, 0, 0, 0, 0], None, []),
]


def neighbours(floor, cell):
    """Another telling of which cells lie beside one another."""
    wide = floor[1]
    row, column = divmod(cell, wide)
    spots = [(row - 1, column), (row + 1, column), (row, column - 1), (row, column + 1)]
    return {r * wide + c for r, c in spots if 0 <= r < floor[0] and 0 <= c < wide}


def region(floor, through, start):
    found = {start} & through
    while True:
        grown = found | {far for near in found for far in neighbours(floor, near) if far in through}
        if grown == found:
            return found
        found = grown


def sets_of(masks):
    return [{sign for sign in range(1, 7) if mask & 2 ** (sign - 1)} for mask in masks]


class Telling:
    """Point 11 told once more, over sets of signs, for the tests alone."""

    def __init__(self, floor, lines, clues, masks):
        self.floor = floor
        self.lines = lines
        self.clues = clues
        self.may = sets_of(masks)
        self.cells = range(floor[0] * floor[1])

    def parts(self, number):
        words = self.lines[number].split(" ")
        name = words[0]
        numbers = [int(word) for word in words[1:]]
        amount = numbers.pop(0) if name in ("sum", "seen", "count") else 0
        mark = numbers.pop(0) if name in ("count", "joined", "nosquare", "ring") else 0
        return name, amount, mark, numbers if numbers else list(self.cells)

    def lets_by(self, thought):
        kind, number, cell, sign, more = thought
        if cell not in self.cells or not 1 <= sign <= self.floor[2] or kind not in KINDS:
            return False
        if kind == "clue":
            return number == 0 and more == [] and self.clues[cell] not in (0, sign)
        if not 0 <= number < len(self.lines):
            return False
        name, amount, mark, spots = self.parts(number)
        if cell not in spots:
            return False
        rest = [spot for spot in spots if spot != cell]
        if kind == "ways":
            return more == [] and self.by_ways(number, rest, cell, sign)
        if kind in ("count", "sum"):
            by = self.by_count if kind == "count" else self.by_sum
            return name == kind and more == [] and by(amount, mark, rest, sign)
        if kind == "step":
            return name == "rising" and more == [] and self.by_step(spots, cell, sign)
        if kind in ("only", "place", "pair"):
            by = {"only": self.by_only, "place": self.by_place, "pair": self.by_pair}[kind]
            return name == "unlike" and by(rest, sign, more)
        by = {"square": self.by_square, "reach": self.by_reach, "turn": self.by_turn}[kind]
        return name in NAMES[kind] and by(mark, cell, sign, more)

    def by_only(self, rest, sign, more):
        return len(more) == 1 and more[0] in rest and self.may[more[0]] <= {sign}

    def by_place(self, rest, sign, more):
        if len(rest) + 1 != self.floor[2] or len(more) != 1 or not 1 <= more[0] <= self.floor[2] or more[0] == sign:
            return False
        return all(more[0] not in self.may[other] for other in rest)

    def by_pair(self, rest, sign, more):
        if len(more) != 2 or more not in [list(two) for two in itertools.combinations(rest, 2)]:
            return False
        return len((self.may[more[0]] | self.may[more[1]]) - {sign}) < 2

    def by_count(self, amount, mark, rest, sign):
        if sign == mark:
            return sum(self.may[other] <= {mark} for other in rest) >= amount
        return sum(mark in self.may[other] for other in rest) < amount

    def by_sum(self, amount, mark, rest, sign):
        if any(not self.may[other] for other in rest):
            return True
        least = sign + sum(min(self.may[other]) for other in rest)
        most = sign + sum(max(self.may[other]) for other in rest)
        return not least <= amount <= most

    def by_step(self, spots, cell, sign):
        place = spots.index(cell)
        if place > 0 and not any(other < sign for other in self.may[spots[place - 1]]):
            return True
        return place + 1 < len(spots) and not any(other > sign for other in self.may[spots[place + 1]])

    def by_square(self, mark, cell, sign, more):
        wide = self.floor[1]
        if sign != mark or len(more) != 1 or more[0] not in self.cells:
            return False
        row, column = divmod(more[0], wide)
        square = [(row + down) * wide + column + right for down in (0, 1) for right in (0, 1)]
        if row + 1 >= self.floor[0] or column + 1 >= wide or cell not in square:
            return False
        return all(self.may[other] <= {mark} for other in square if other != cell)

    def by_reach(self, mark, cell, sign, more):
        others = set(self.cells) - {cell}
        if len(set(more)) != len(more) or not all(other in others and self.may[other] <= {mark} for other in more):
            return False
        through = {other for other in others if mark in self.may[other]}
        if sign == mark:
            return len(more) == 1 and more[0] not in region(self.floor, through | {cell}, cell)
        return len(more) == 2 and more[1] not in region(self.floor, through, more[0])

    def by_turn(self, mark, cell, sign, more):
        near = neighbours(self.floor, cell)
        if more == []:
            only = [other for other in near if self.may[other] <= {mark}]
            return sign == mark and (sum(mark in self.may[other] for other in near) < 2 or len(only) > 2)
        if len(more) != 1 or more[0] not in near or not self.may[more[0]] <= {mark}:
            return False
        far = neighbours(self.floor, more[0]) - {cell}
        if sign == mark:
            return sum(self.may[other] <= {mark} for other in far) >= 2
        return sum(mark in self.may[other] for other in far) < 2

    def by_ways(self, number, rest, cell, sign):
        many = 1
        for other in rest:
            many *= len(self.may[other])
        if many == 0 or many > 32:
            return many == 0
        rule = Puzzle(self.floor, self.lines, self.clues).rules()[number]
        for signs in itertools.product(*[sorted(self.may[other]) for other in rest]):
            filling = [0] * len(self.cells)
            filling[cell] = sign
            for other, told in zip(rest, signs):
                filling[other] = told
            if rule.holds(filling):
                return False
        return True


class LetBy(unittest.TestCase):
    def test_every_kind_is_among_those_told(self):
        self.assertEqual({row[0][0] for row in TOLD}, set(KINDS))
        self.assertEqual({row[0][0] for row in TOLD if row[2]}, set(KINDS) - {"clue"})

    def test_let_by(self):
        for thought, masks, others, cells in TOLD:
            self.assertIs(allowed(PUZZLE, masks, thought), True, (thought, masks))

    def test_not_let_by(self):
        for thought, masks, others, cells in TOLD:
            if others is not None:
                self.assertIs(allowed(PUZZLE, others, thought), False, (thought, others))
        for thought in (("clue", 0, 0, 2, []), ("clue", 0, 1, 2, []), ("clue", 0, 1, 1, [])):
            for masks in ([7] * 6, [1] * 6, [0] * 6):
                self.assertIs(allowed(PUZZLE, masks, thought), False, thought)

    def test_the_sign_need_not_stand(self):
        for thought, masks, others, cells in TOLD:
            for mask in range(8):
                there = list(masks)
                there[thought[2]] = mask
                self.assertIs(allowed(PUZZLE, there, thought), True, (thought, there))

    def test_a_supposing_is_not_let_by_here(self):
        for more in ([], [("clue", 0, 0, 1, []), ("clue", 0, 0, 3, [])], [("only", 0, 0, 2, [1])], [0]):
            for masks in ([7] * 6, [0] * 6):
                self.assertIs(allowed(PUZZLE, masks, ("suppose", 0, 1, 2, more)), False)


class NoForm(unittest.TestCase):
    def test_words_that_are_no_kind(self):
        for thought, masks, others, cells in TOLD:
            for kind in ("", "Only", "only ", "unlike", "seen", "rising", "joined", "nosquare", "ring", "solve"):
                self.assertIs(allowed(PUZZLE, masks, (kind,) + thought[1:]), False)

    def test_rules_that_are_none(self):
        for thought, masks, others, cells in TOLD:
            for number in FAR + [len(LINES), len(LINES) + 1]:
                self.assertIs(allowed(PUZZLE, masks, (thought[0], number) + thought[2:]), False, (thought, number))

    def test_a_clue_has_the_rule_0_alone(self):
        for number in range(1, len(LINES)):
            self.assertIs(allowed(PUZZLE, [7] * 6, ("clue", number, 0, 1, [])), False)

    def test_cells_that_are_none(self):
        for thought, masks, others, cells in TOLD:
            for cell in FAR + [6, 7, -6]:
                self.assertIs(allowed(PUZZLE, masks, thought[:2] + (cell,) + thought[3:]), False, (thought, cell))

    def test_signs_that_are_none(self):
        for thought, masks, others, cells in TOLD:
            for sign in FAR + [0, 4, 5, 6, 7]:
                for some in (masks, [0] * 6):
                    self.assertIs(allowed(PUZZLE, some, thought[:3] + (sign,) + thought[4:]), False, (thought, sign))

    def test_mores_that_are_none(self):
        for thought, masks, others, cells in TOLD:
            for number in FAR + [6, 7]:
                for place in range(len(thought[4])):
                    more = list(thought[4])
                    more[place] = number
                    self.assertIs(allowed(PUZZLE, masks, thought[:4] + (more,)), False, (thought, more))
                    self.assertIs(allowed(PUZZLE, [0] * 6, thought[:4] + (more,)), False, (thought, more))
                longer = thought[4] + [number]
                self.assertIs(allowed(PUZZLE, masks, thought[:4] + (longer,)), False, (thought, longer))
                self.assertIs(allowed(PUZZLE, masks, thought[:4] + ([number] + thought[4],)), False, thought)
            self.assertIs(allowed(PUZZLE, masks, thought[:4] + ([1, 2, 3],)), False, thought)
            self.assertIs(allowed(PUZZLE, masks, thought[:4] + (list(range(400)),)), False, thought)
            self.assertIs(allowed(PUZZLE, masks, thought[:4] + ([thought],)), False, thought)
            if thought[4] != [] and thought[0] != "turn":
                self.assertIs(allowed(PUZZLE, masks, thought[:4] + ([],)), False, thought)
                self.assertIs(allowed(PUZZLE, [0] * 6, thought[:4] + ([],)), False, thought)

    def test_a_floor_of_one_cell(self):
        puzzle = Puzzle((1, 1, 1), ["unlike 0", "rising 0", "sum 2 0", "ring 1", "nosquare 1", "joined 1"], [1])
        for kind, number, more in itertools.product(KINDS, range(-1, 7), ([], [0], [1], [0, 0])):
            told = (kind, number, more) in (("sum", 2, []), ("ways", 2, []), ("turn", 3, []), ("ways", 3, []))
            self.assertIs(allowed(puzzle, [1], (kind, number, 0, 1, more)), told, (kind, number, more))


class Compared(unittest.TestCase):
    """The same as the other telling, of thoughts by chance from masks by chance; the seed is fixed."""

    PUZZLES = [
        ((1, 4, 3), ["unlike 3 0 2", "rising 0 1 3", "sum 4 1 2", "seen 1 3 2 1 0", "count 1 2 0 2 3"], [0, 3, 0, 1]),
        ((2, 2, 2), ["ring 1", "nosquare 2", "joined 2", "unlike 0 3", "unlike 2 1 0"], [0, 0, 2, 1]),
        ((3, 3, 2), ["ring 1", "joined 2", "nosquare 1", "count 4 1 0 1 2 5 8 7 6 3", "sum 6 3 4 5"], [0] * 8 + [2]),
        ((2, 3, 4), ["unlike 5 0 1 4", "ring 3", "joined 4", "rising 2 1", "seen 3 0 3 4 5 2 1"], [0, 1, 0, 4, 0, 0]),
        ((4, 4, 2), ["ring 2", "joined 1", "nosquare 2"], [0] * 16),
        ((1, 1, 6), ["unlike 0", "sum 5 0", "seen 1 0", "seen 0 0", "joined 6"], [4]),
    ]

    def thought_by(self, chance, floor, lines):
        many = floor[0] * floor[1]
        kind = chance.choice(KINDS)
        fitting = [number for number, line in enumerate(lines) if line.split(" ")[0] in NAMES.get(kind, ())]
        if not fitting or chance.random() < 0.2:
            fitting = list(range(-1, len(lines) + 1))
        length = chance.choice(LENGTHS.get(kind, [0])) if chance.random() < 0.8 else chance.randrange(4)
        more = [chance.randrange(many) if chance.random() < 0.9 else chance.choice([-1, many]) for place in range(length)]
        return (kind, chance.choice(fitting), chance.randrange(-1, many + 1), chance.randrange(0, floor[2] + 2), more)

    def masks_by(self, chance, floor):
        masks = []
        often = chance.randrange(floor[2])
        for cell in range(floor[0] * floor[1]):
            signs = [sign for sign in range(floor[2]) if chance.random() < chance.choice([0.2, 0.5, 1])]
            masks.append(2 ** often if chance.random() < 0.4 else sum(2 ** sign for sign in signs))
        return masks

    def test_by_chance(self):
        chance = random.Random(11)
        told = {}
        for floor, lines, clues in self.PUZZLES:
            puzzle = Puzzle(floor, lines, clues)
            for turn in range(500):
                masks = self.masks_by(chance, floor)
                telling = Telling(floor, lines, clues, masks)
                for again in range(40):
                    thought = self.thought_by(chance, floor, lines)
                    lets_by = telling.lets_by(thought)
                    self.assertIs(allowed(puzzle, masks, thought), lets_by, (floor, lines, masks, thought))
                    told[thought[0], lets_by] = told.get((thought[0], lets_by), 0) + 1
        for kind in KINDS:
            self.assertGreater(told.get((kind, True), 0), 10, kind)
            self.assertGreater(told.get((kind, False), 0), 10, kind)

    def test_all_thoughts_of_small_puzzles(self):
        chance = random.Random(12)
        for floor, lines, clues in self.PUZZLES[:2]:
            puzzle = Puzzle(floor, lines, clues)
            mores = [list(some) for many in range(3) for some in itertools.product(range(4), repeat=many)]
            for turn in range(6):
                masks = self.masks_by(chance, floor)
                telling = Telling(floor, lines, clues, masks)
                for thought in itertools.product(KINDS, range(5), range(4), range(1, floor[2] + 1), mores):
                    self.assertIs(allowed(puzzle, masks, thought), telling.lets_by(thought), (lines, masks, thought))


class RestsOn(unittest.TestCase):
    def test_of_each_kind(self):
        for thought, masks, others, cells in TOLD:
            self.assertEqual(rests_on(PUZZLE, thought), cells, thought)

    def test_it_hangs_on_no_masks(self):
        # thoughts that are let by from hardly any masks, or from none
        for thought, cells in (
            (("clue", 0, 0, 2, []), []), (("clue", 0, 4, 2, []), []),
            (("only", 0, 2, 3, [0]), [0]), (("pair", 0, 2, 3, [0, 1]), [0, 1]), (("pair", 0, 1, 3, [2, 0]), [0, 2]),
            (("place", 0, 2, 1, [2]), [0, 1]), (("count", 1, 3, 1, []), [0, 1]), (("count", 1, 1, 3, []), [0, 3]),
            (("step", 2, 1, 1, []), [0]), (("step", 2, 0, 2, []), [1, 4]), (("step", 2, 4, 3, []), [0]),
            (("sum", 3, 1, 2, []), [0]), (("ways", 0, 0, 1, []), [1, 2]), (("ways", 4, 3, 2, []), [0, 1, 2, 4, 5]),
            (("square", 4, 5, 1, [1]), [1, 2, 4]), (("reach", 6, 3, 1, [4]), [0, 1, 2, 4, 5]),
            (("reach", 5, 3, 2, [4, 0]), [0, 1, 2, 4, 5]), (("turn", 6, 5, 1, []), [2, 4]),
            (("turn", 6, 4, 2, [1]), [0, 1, 2]), (("turn", 6, 2, 1, [1]), [0, 1, 4]), (("turn", 6, 1, 1, [2]), [2, 5]),
        ):
            self.assertEqual(rests_on(PUZZLE, thought), cells, thought)

    def test_a_rule_of_one_cell_has_no_others(self):
        puzzle = Puzzle((1, 2, 1), ["unlike 1", "rising 0", "sum 3 1", "count 0 1 0", "seen 1 0"], [0, 0])
        for thought in (("place", 0, 1, 1, [1]), ("step", 1, 0, 1, []), ("sum", 2, 1, 1, []), ("count", 3, 0, 1, []),
                        ("ways", 4, 0, 1, []), ("ways", 0, 1, 1, [])):
            self.assertEqual(rests_on(puzzle, thought), [])

    def test_cells_told_in_another_order_are_told_rising(self):
        puzzle = Puzzle((2, 3, 2), ["sum 9 5 0 4 1 2", "rising 5 2 0"], [0] * 6)
        self.assertEqual(rests_on(puzzle, ("sum", 0, 4, 1, [])), [0, 1, 2, 5])
        self.assertEqual(rests_on(puzzle, ("ways", 0, 5, 1, [])), [0, 1, 2, 4])
        self.assertEqual(rests_on(puzzle, ("step", 1, 2, 1, [])), [0, 5])


class Kept(unittest.TestCase):
    def test_what_is_handed_in_stays(self):
        for thought, masks, others, cells in TOLD:
            kept = copy.deepcopy((thought, masks))
            allowed(PUZZLE, masks, thought)
            rests_on(PUZZLE, thought).append(99)
            self.assertEqual((thought, masks), kept)
        self.assertEqual((PUZZLE.lines(), PUZZLE.clues()), (LINES, [2, 0, 0, 0, 0, 0]))

    def test_what_is_told_is_the_askers_own(self):
        for thought, masks, others, cells in TOLD:
            told = rests_on(PUZZLE, thought)
            told.append(99)
            self.assertEqual(rests_on(PUZZLE, thought), cells)
            again = rests_on(PUZZLE, thought)
            thought[4].append(98)
            self.assertEqual(again, cells)
            thought[4].pop()


if __name__ == "__main__":
    unittest.main()

"""The form that a thought must have, asked of each kind; what else each kind asks stands in its own file's tests."""

import copy
import unittest

from cluemaker.kinds import KINDS, is_formed
from cluemaker.lines import LINE_KINDS, allowed_by_line
from cluemaker.numbers import NUMBER_KINDS, allowed_by_number
from cluemaker.puzzles import Puzzle
from cluemaker.regions import REGION_KINDS, allowed_by_region

FLOOR = (2, 3, 3)
LINES = ["unlike 0 1 2", "count 1 3 0 1 3", "rising 1 0 4", "sum 5 0 1", "nosquare 1", "joined 1", "ring 1", "seen 2 0 1"]
NAMES = ["unlike", "count", "rising", "sum", "nosquare", "joined", "ring", "seen"]
PUZZLE = Puzzle(FLOOR, LINES, [2, 0, 0, 0, 0, 0])
FULL = [7] * 6
# every sign but 1 is struck out everywhere, so that each kind has something to go by
ONES = [1] * 6

# one thought of each kind, or more, that is let by; and masks from which it is
LET_BY = [
    (("clue", 0, 0, 1, []), FULL),
    (("only", 0, 0, 1, [2]), [7, 7, 1, 7, 7, 7]),
    (("place", 0, 0, 1, [3]), [7, 3, 3, 7, 7, 7]),
    (("count", 1, 0, 3, []), [7, 4, 7, 7, 7, 7]),
    (("step", 2, 0, 1, []), FULL),
    (("sum", 3, 0, 1, []), FULL),
    (("square", 4, 0, 1, [0]), ONES),
    (("reach", 5, 0, 1, [5]), [7, 6, 7, 6, 7, 1]),
    (("reach", 6, 0, 1, [5]), [7, 6, 7, 6, 7, 1]),
    (("reach", 5, 0, 2, [1, 3]), [7, 1, 7, 1, 6, 7]),
    (("turn", 6, 0, 1, []), [7, 6, 7, 7, 7, 7]),
    (("turn", 6, 0, 1, [1]), [7, 1, 1, 7, 1, 7]),
    (("pair", 0, 0, 1, [1, 2]), [7, 3, 3, 7, 7, 7]),
    (("ways", 3, 0, 1, []), FULL),
    (("ways", 7, 0, 3, []), FULL),
]


def allowed(puzzle, masks, thought):
    told = [ask(puzzle, masks, thought) for ask in (allowed_by_line, allowed_by_number, allowed_by_region)]
    assert all(type(one) is bool for one in told) and sum(told) <= 1, (thought, told)
    return any(told)


class Order(unittest.TestCase):
    def test_the_kinds_in_their_order(self):
        self.assertIs(type(KINDS), tuple)
        words = "clue only place count step sum square reach turn pair ways"
        self.assertEqual(" ".join(KINDS), words)

    def test_each_kind_is_found_in_one_file(self):
        self.assertEqual(sorted(LINE_KINDS + NUMBER_KINDS + REGION_KINDS), sorted(KINDS))
        for thought, masks in LET_BY:
            self.assertIs(allowed_by_line(PUZZLE, masks, thought), thought[0] in LINE_KINDS)
            self.assertIs(allowed_by_number(PUZZLE, masks, thought), thought[0] in NUMBER_KINDS)
            self.assertIs(allowed_by_region(PUZZLE, masks, thought), thought[0] in REGION_KINDS)


class Form(unittest.TestCase):
    def refuse(self, masks, thought):
        self.assertIs(is_formed(PUZZLE, thought), False, thought)
        self.assertIs(allowed(PUZZLE, masks, thought), False, thought)

    def test_let_by_as_they_are(self):
        self.assertEqual({thought[0] for thought, masks in LET_BY}, set(KINDS))
        for thought, masks in LET_BY:
            self.assertIs(is_formed(PUZZLE, thought), True, thought)
            self.assertIs(allowed(PUZZLE, masks, thought), True, thought)

    def test_whether_the_sign_still_stands_is_not_asked(self):
        for thought, masks in LET_BY:
            for mask in range(8):
                self.assertIs(allowed(PUZZLE, [mask] + masks[1:], thought), True, (thought, mask))

    def test_other_kinds(self):
        for thought, masks in LET_BY:
            for kind in ("suppose", "", "Clue", "clues", "seen", "unlike", "rising", None, 0, True, ["clue"], ("clue",)):
                self.refuse(masks, (kind,) + thought[1:])

    def test_the_rule_is_of_the_right_name(self):
        right = {
            "only": ["unlike"], "place": ["unlike"], "pair": ["unlike"], "count": ["count"], "step": ["rising"],
            "sum": ["sum"], "square": ["nosquare"], "reach": ["joined", "ring"], "turn": ["ring"], "ways": NAMES,
        }
        for thought, masks in LET_BY:
            kind, rule, *rest = thought
            for number, name in enumerate(NAMES):
                if kind == "clue":
                    self.assertIs(is_formed(PUZZLE, (kind, number, *rest)), number == 0)
                    self.assertIs(allowed(PUZZLE, masks, (kind, number, *rest)), number == 0)
                else:
                    self.assertIs(is_formed(PUZZLE, (kind, number, *rest)), name in right[kind], (kind, name))
                    if name not in right[kind]:
                        self.refuse(masks, (kind, number, *rest))

    def test_the_rule_is_a_number_of_a_rule(self):
        for thought, masks in LET_BY:
            for number in (-1, -8, 8, 9, 99, 10 ** 60 - 1, True, False, None, "0", [0], 0.0):
                self.refuse(masks, (thought[0], number) + thought[2:])

    def test_truths_are_no_numbers(self):
        puzzle = Puzzle((1, 2, 2), ["unlike 0 1", "unlike 1 0"], [2, 2])
        masks = [1, 1]
        self.assertIs(allowed(puzzle, masks, ("only", 1, 1, 1, [0])), True)
        for thought in (("only", True, 1, 1, [0]), ("only", 1, True, 1, [0]), ("only", 1, 1, True, [0]),
                        ("only", 1, 1, 1, [False]), ("only", False, 1, 1, [0])):
            self.assertIs(is_formed(puzzle, thought), False, thought)
            self.assertIs(allowed(puzzle, masks, thought), False, thought)
        self.assertIs(allowed(puzzle, masks, ("clue", 0, 0, 1, [])), True)
        self.assertIs(allowed(puzzle, masks, ("clue", False, 0, 1, [])), False)
        self.assertIs(allowed(puzzle, masks, ("clue", 0, False, 1, [])), False)
        self.assertIs(allowed(puzzle, masks, ("clue", 0, 0, True, [])), False)

    def test_the_cell_is_one_of_the_floor(self):
        for thought, masks in LET_BY:
            for cell in (-1, -6, 6, 7, 99, 10 ** 60 - 1, True, False, None, "0"):
                self.refuse(masks, thought[:2] + (cell,) + thought[3:])

    def test_the_cell_is_one_of_the_rules(self):
        for thought, masks in LET_BY:
            if thought[0] != "clue":
                for cell in range(6):
                    if cell not in PUZZLE.rules()[thought[1]].spots():
                        self.refuse(masks, thought[:2] + (cell,) + thought[3:])
                        self.refuse([0] * 6, thought[:2] + (cell,) + thought[3:])

    def test_the_sign_is_one_of_the_floors(self):
        for thought, masks in LET_BY:
            for sign in (0, -1, 4, 5, 99, 10 ** 60 - 1, True, None, "1"):
                self.refuse(masks, thought[:3] + (sign,) + thought[4:])
                self.refuse([0] * 6, thought[:3] + (sign,) + thought[4:])

    def test_more_is_a_list_of_numbers(self):
        for thought, masks in LET_BY:
            for more in (None, 0, 1, "", "1", tuple(thought[4]), {}, [None], ["1"], [[]], [[1]], [1.0], [True], [False],
                         [("clue", 0, 0, 1, [])], [1, True], [1, ("clue", 0, 0, 1, [])]):
                self.refuse(masks, thought[:4] + (more,))

    def test_more_is_no_longer_than_told(self):
        for thought, masks in LET_BY:
            for part in (-1, 0, 1, 2, 3, 5, 6, 10 ** 60 - 1):
                longer = thought[:4] + (thought[4] + [part],)
                if longer[4] != [] and thought[0] != "turn":
                    self.assertIs(allowed(PUZZLE, masks, longer), False, longer)
            self.assertIs(allowed(PUZZLE, masks, thought[:4] + (thought[4] * 2 + [3, 4, 5],)), False)
            self.assertIs(allowed(PUZZLE, masks, thought[:4] + ([1] * 400,)), False)

    def test_what_is_no_thought(self):
        for thing in (None, (), [], "clue", 0, ("clue",), ("clue", 0, 0, 1), ("clue", 0, 0, 1, [], []),
                      ["clue", 0, 0, 1, []]):
            self.refuse(FULL, thing)

    def test_without_rules_there_are_clues_all_the_same(self):
        puzzle = Puzzle(FLOOR, [], [2, 0, 0, 0, 0, 0])
        for thought, masks in LET_BY:
            self.assertIs(is_formed(puzzle, thought), thought[0] == "clue")
            self.assertIs(allowed(puzzle, masks, thought), thought[0] == "clue")


class HandedIn(unittest.TestCase):
    def test_all_stays_as_it_was(self):
        for thought, masks in LET_BY:
            kept = copy.deepcopy((thought, masks))
            allowed(PUZZLE, masks, thought)
            self.assertEqual((thought, masks), kept)
        self.assertEqual(PUZZLE.lines(), LINES)
        self.assertEqual(PUZZLE.clues(), [2, 0, 0, 0, 0, 0])
        self.assertEqual(PUZZLE.place(), FLOOR)


if __name__ == "__main__":
    unittest.main()

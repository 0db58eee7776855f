import itertools
import unittest

from cluemaker.errors import (
    BadThought, ClueError, NoFilling, NoFloor, NoMove, NoName, NoPuzzle, NoRow, NoRule, NoText, NotOne, TooMany,
)
from cluemaker.rows import line_by, read_rule
from cluemaker.rules import Rule

OTHER_REFUSALS = (NoFilling, NoFloor, NoMove, NoName, NoPuzzle, NoRow, NoText, NotOne, TooMany, BadThought)
ROW = (1, 4, 4)
THREE = (3, 3, 3)
ALL_NINE = [0, 1, 2, 3, 4, 5, 6, 7, 8]

# floor, row, name, cells, number, sign, reckons
TOLD = [
    (ROW, "unlike 3 0 2", "unlike", [3, 0, 2], 0, 0, False),
    (ROW, "unlike 1", "unlike", [1], 0, 0, False),
    (ROW, "sum 7 2 1", "sum", [2, 1], 7, 0, True),
    (ROW, "sum 0 0", "sum", [0], 0, 0, True),
    (ROW, "sum 99 3 2 1 0", "sum", [3, 2, 1, 0], 99, 0, True),
    (ROW, "rising 0 3 1", "rising", [0, 3, 1], 0, 0, True),
    (ROW, "rising 2", "rising", [2], 0, 0, True),
    (ROW, "seen 2 3 2 1 0", "seen", [3, 2, 1, 0], 2, 0, True),
    (ROW, "seen 0 1", "seen", [1], 0, 0, True),
    (ROW, "count 2 4 1 0 3", "count", [1, 0, 3], 2, 4, False),
    (ROW, "count 0 1 0", "count", [0], 0, 1, False),
    (ROW, "count 99 1 0", "count", [0], 99, 1, False),
    (THREE, "joined 3", "joined", ALL_NINE, 0, 3, False),
    (THREE, "nosquare 1", "nosquare", ALL_NINE, 0, 1, False),
    (THREE, "ring 2", "ring", ALL_NINE, 0, 2, False),
    ((1, 1, 1), "ring 1", "ring", [0], 0, 1, False),
    ((4, 4, 6), "unlike " + " ".join(str(cell) for cell in range(15, -1, -1)), "unlike", list(range(15, -1, -1)),
     0, 0, False),
    ((4, 4, 6), "joined 6", "joined", list(range(16)), 0, 6, False),
]


class Read(unittest.TestCase):
    def test_what_is_told_of_each(self):
        for floor, line, name, cells, number, sign, reckons in TOLD:
            rule = read_rule(floor, line)
            self.assertIsInstance(rule, Rule)
            self.assertEqual(rule.name(), name)
            self.assertEqual(rule.spots(), cells)
            self.assertIs(type(rule.spots()), list)
            self.assertEqual(rule.number(), number)
            self.assertEqual(rule.sign(), sign)
            self.assertIs(rule.reckons(), reckons)
            self.assertEqual(rule.line(), line)

    def test_a_row_is_written_from_the_parts_of_its_rule(self):
        for floor, line, name, cells, number, sign, reckons in TOLD:
            self.assertEqual(line_by(name, number, sign, cells), line)

    def test_the_rules_have_their_names_from_rule(self):
        for name in ("name", "spots", "holds", "number", "sign", "reckons", "line"):
            self.assertTrue(callable(getattr(Rule, name)), name)

    def test_every_number_in_its_bounds(self):
        for number in range(100):
            self.assertEqual(read_rule(ROW, f"sum {number} 0 1").number(), number)
            self.assertEqual(read_rule(ROW, f"seen {number} 0 1").number(), number)
            self.assertEqual(read_rule(ROW, f"count {number} 2 0 1").number(), number)

    def test_every_sign_and_cell_of_the_floor(self):
        for signs in range(1, 7):
            for sign in range(1, signs + 1):
                for line in (f"joined {sign}", f"nosquare {sign}", f"ring {sign}", f"count 1 {sign} 0"):
                    self.assertEqual(read_rule((2, 2, signs), line).sign(), sign)
        for cell in range(16):
            self.assertEqual(read_rule((4, 4, 1), f"unlike {cell}").spots(), [cell])

    def test_told_cells_are_the_askers_own(self):
        rule = read_rule(ROW, "sum 3 1 0")
        rule.spots().append(2)
        told = rule.spots()
        told[0] = 3
        self.assertEqual(rule.spots(), [1, 0])
        self.assertEqual(rule.line(), "sum 3 1 0")
        self.assertTrue(rule.holds([1, 2, 4, 4]))


class Refused(unittest.TestCase):
    def refuse(self, floor, line):
        with self.assertRaises(NoRule, msg=line) as taken:
            read_rule(floor, line)
        self.assertIsInstance(taken.exception, ClueError)
        self.assertIsInstance(taken.exception, ValueError)
        self.assertNotIsInstance(taken.exception, OTHER_REFUSALS)

    def test_what_is_no_text(self):
        for thing in (None, 0, 1, True, [], ["unlike", "0"], ["unlike 0"], ("unlike 0",), {}, b"unlike 0", 10 ** 60 - 1):
            self.refuse(ROW, thing)

    def test_first_words_that_are_none(self):
        for word in ("", "like", "Unlike", "UNLIKE", "unlik", "unlikes", "sums", "rise", "see", "counts", "join",
                     "no_square", "noSquare", "rings", "0", "suppose", "ways"):
            self.refuse(ROW, word)
            self.refuse(ROW, f"{word} 1")
            self.refuse(ROW, f"{word} 1 2")
            self.refuse(ROW, f"{word} 1 2 3")

    def test_too_few_words(self):
        for line in ("unlike", "rising", "sum", "sum 3", "seen", "seen 1", "count", "count 1", "count 1 2", "joined",
                     "nosquare", "ring", ""):
            self.refuse(ROW, line)

    def test_too_many_words(self):
        for line in ("joined 1 2", "nosquare 1 0", "ring 2 0 1", "joined 1 1"):
            self.refuse(ROW, line)

    def test_blanks(self):
        for floor, line, *told in TOLD:
            for wrong in (f" {line}", f"{line} ", line.replace(" ", "  "), line.replace(" ", "  ", 1),
                          line.replace(" ", "\t"), line.replace(" ", "\n"), f"{line}\n", f"\n{line}", f"{line}\t",
                          line.replace(" ", ""), line.replace(" ", ","), line.replace(" ", "\u00a0")):
                self.refuse(floor, wrong)
        for line in ("unlike ", "joined ", "sum  0", " ", "  "):
            self.refuse(ROW, line)

    def test_cells_beyond_the_floor(self):
        for many, floor in ((4, ROW), (4, (2, 2, 4)), (9, (3, 3, 4)), (16, (4, 4, 4)), (1, (1, 1, 4))):
            for head in ("unlike", "rising", "sum 3", "seen 1", "count 1 2"):
                read_rule(floor, f"{head} {many - 1}")
                self.refuse(floor, f"{head} {many}")
                self.refuse(floor, f"{head} 0 {many}")
                self.refuse(floor, f"{head} {10 ** 60 - 1}")
                self.refuse(floor, f"{head} -1")

    def test_cells_twice(self):
        for head in ("unlike", "rising", "sum 3", "seen 1", "count 1 2"):
            self.refuse(ROW, f"{head} 0 0")
            self.refuse(ROW, f"{head} 1 0 2 1")
            self.refuse(ROW, f"{head} 0 1 2 3 0")
            self.refuse((4, 4, 6), f"{head} " + " ".join(str(cell % 16) for cell in range(17)))

    def test_numbers_beyond_the_bounds(self):
        for head in ("sum {} 0 1", "seen {} 0 1", "count {} 1 0 1"):
            for wrong in ("100", "101", "999", "1000000000", "9999999999", str(10 ** 60 - 1), "-1", "-0", "+1"):
                self.refuse(ROW, head.format(wrong))
            self.refuse(ROW, head.format("9" * 3900))

    def test_signs_beyond_the_bounds(self):
        for signs in range(1, 7):
            for head in ("joined {}", "nosquare {}", "ring {}", "count 1 {} 0"):
                for wrong in ("0", str(signs + 1), "7", "10", "-1", str(10 ** 60 - 1)):
                    self.refuse((2, 2, signs), head.format(wrong))

    def test_noughts_ahead_and_what_is_no_number(self):
        for head in ("unlike {}", "unlike 0 {}", "rising {} 0", "sum {} 0", "sum 3 {}", "seen {} 0", "seen 1 {}",
                     "count {} 1 0", "count 1 {} 0", "count 1 1 {}", "joined {}", "nosquare {}", "ring {}"):
            for wrong in ("00", "01", "02", "000", "1.0", "1e0", "0x1", "1_0", "_1", "one", "x", "1x", "", "\u00b2",
                          "\u0661", "\uff11", "\u2460", "+1", "-1", "1\n", "\n1", "1/1", ".", "1;", "(1)"):
                self.refuse(ROW, head.format(wrong))

    def test_long_texts(self):
        self.refuse(ROW, "unlike" + " 0" * 1900)
        self.refuse(ROW, "unlike" + " " * 3900)
        self.refuse(ROW, "unlike " + "0" * 3900)
        self.refuse(ROW, "u" * 4000)
        self.refuse(ROW, "sum " + "9" * 5000 + " 0")


def all_fillings(many, signs):
    return [list(filling) for filling in itertools.product(range(1, signs + 1), repeat=many)]


def groups(floor, cells):
    """The parts in which the cells hang together, found by joining one pair after the other."""
    wide = floor[1]
    part = {cell: {cell} for cell in cells}
    for one in cells:
        for other in cells:
            if abs(one // wide - other // wide) + abs(one % wide - other % wide) == 1:
                whole = part[one] | part[other]
                for cell in whole:
                    part[cell] = whole
    return {tuple(sorted(one)) for one in part.values()}


class OfToldCells(unittest.TestCase):
    def check(self, line, wanted):
        """Each filling of a row of four, also with noughts at the cells that are not of the rule."""
        rule = read_rule(ROW, line)
        cells = rule.spots()
        told = {True: 0, False: 0}
        for filling in all_fillings(4, 4):
            holds = wanted(*[filling[cell] for cell in cells])
            self.assertIs(rule.holds(filling), holds, (line, filling))
            bare = [sign if cell in cells else 0 for cell, sign in enumerate(filling)]
            self.assertIs(rule.holds(bare), holds, (line, bare))
            told[holds] += 1
        return told

    def test_unlike(self):
        self.assertEqual(self.check("unlike 3 0 2", lambda a, b, c: a != b and b != c and a != c)[True], 96)
        self.assertEqual(self.check("unlike 3", lambda a: True)[False], 0)
        self.assertEqual(self.check("unlike 0 1 2 3", lambda *signs: sorted(signs) == [1, 2, 3, 4])[True], 24)

    def test_sum(self):
        for number in (0, 1, 2, 3, 7, 12, 13, 99):
            self.check(f"sum {number} 3 1 0", lambda a, b, c: a + b + c == number)
            self.check(f"sum {number} 2", lambda a: a == number)
        self.assertEqual(self.check("sum 0 1", lambda a: False)[True], 0)

    def test_rising(self):
        self.assertEqual(self.check("rising 2 0 3", lambda a, b, c: a < b < c)[True], 16)
        self.assertEqual(self.check("rising 0 1 2 3", lambda *signs: signs == (1, 2, 3, 4))[True], 1)
        self.assertEqual(self.check("rising 1", lambda a: True)[False], 0)

    def test_seen(self):
        for number in range(6):
            self.check(f"seen {number} 2 0 3",
                       lambda a, b, c: 1 + (b > a) + (c > max(a, b)) == number)
            self.check(f"seen {number} 1", lambda a: number == 1)
            self.check(f"seen {number} 3 2 1 0", lambda a, b, c, d:
                       1 + (b > a) + (c > max(a, b)) + (d > max(a, b, c)) == number)

    def test_the_first_cell_is_always_seen(self):
        for sign in range(1, 7):
            self.assertIs(read_rule((1, 2, 6), "seen 1 1").holds([0, sign]), True)
            self.assertIs(read_rule((1, 2, 6), "seen 0 1").holds([0, sign]), False)
            self.assertIs(read_rule((1, 2, 6), "seen 1 0 1").holds([sign, 1]), True)

    def test_count(self):
        for number in range(5):
            for sign in range(1, 5):
                self.check(f"count {number} {sign} 3 1 2", lambda *signs: signs.count(sign) == number)


class OfTheWholeFloor(unittest.TestCase):
    FLOORS = [(1, 1, 2), (1, 5, 2), (5, 1, 2), (2, 2, 3), (2, 4, 2), (3, 3, 2), (2, 3, 3)]

    def each(self):
        for floor in self.FLOORS:
            many = floor[0] * floor[1]
            for filling in all_fillings(many, floor[2]):
                for sign in range(1, floor[2] + 1):
                    yield floor, filling, sign, [cell for cell in range(many) if filling[cell] == sign]

    def test_joined(self):
        for floor, filling, sign, cells in self.each():
            self.assertIs(read_rule(floor, f"joined {sign}").holds(filling), len(groups(floor, cells)) <= 1)

    def test_nosquare(self):
        for floor, filling, sign, cells in self.each():
            wide = floor[1]
            corners = [cell for cell in cells if cell % wide < wide - 1]
            full = any(all(cell + far in cells for far in (1, wide, wide + 1)) for cell in corners)
            self.assertIs(read_rule(floor, f"nosquare {sign}").holds(filling), not full)

    def test_ring(self):
        for floor, filling, sign, cells in self.each():
            wide = floor[1]
            many = [sum(abs(one // wide - other // wide) + abs(one % wide - other % wide) == 1 for other in cells)
                    for one in cells]
            wanted = len(groups(floor, cells)) <= 1 and all(one == 2 for one in many)
            self.assertIs(read_rule(floor, f"ring {sign}").holds(filling), wanted)

    def test_some(self):
        ring = [1, 1, 1, 1, 2, 1, 1, 1, 1]
        self.assertIs(read_rule(THREE, "ring 1").holds(ring), True)
        self.assertIs(read_rule(THREE, "joined 1").holds(ring), True)
        self.assertIs(read_rule(THREE, "nosquare 1").holds(ring), True)
        self.assertIs(read_rule(THREE, "ring 2").holds(ring), False)
        self.assertIs(read_rule(THREE, "joined 2").holds(ring), True)
        self.assertIs(read_rule(THREE, "joined 1").holds([1, 2, 2, 2, 1, 2, 2, 2, 2]), False)
        self.assertIs(read_rule(THREE, "nosquare 2").holds([1, 2, 2, 2, 2, 2, 2, 2, 1]), False)
        self.assertIs(read_rule(THREE, "nosquare 2").holds([1, 2, 2, 2, 1, 2, 2, 2, 1]), True)

    def test_two_rings_are_none(self):
        floor = (2, 5, 2)
        two = [1, 1, 2, 1, 1, 1, 1, 2, 1, 1]
        self.assertIs(read_rule(floor, "ring 1").holds(two), False)
        self.assertIs(read_rule(floor, "ring 1").holds([1, 1] + [2] * 3 + [1, 1] + [2] * 3), True)

    def test_where_no_cell_has_the_sign(self):
        for floor in ((1, 1, 2), (2, 2, 3), (4, 4, 6)):
            filling = [1] * (floor[0] * floor[1])
            for name in ("joined", "ring", "nosquare"):
                self.assertIs(read_rule(floor, f"{name} 2").holds(filling), True)

    def test_one_cell_is_joined_and_no_ring(self):
        self.assertIs(read_rule((1, 1, 1), "joined 1").holds([1]), True)
        self.assertIs(read_rule((1, 1, 1), "ring 1").holds([1]), False)
        self.assertIs(read_rule((1, 1, 1), "nosquare 1").holds([1]), True)


class OwnAnswers(unittest.TestCase):
    def test_the_filling_stays_and_later_answers_too(self):
        filling = [1, 1, 2, 1, 2, 2, 3, 3, 3]
        for line in ("unlike 0 2 6", "sum 4 0 2 1", "rising 0 2 6", "seen 3 0 2 6", "count 2 1 0 1 2", "joined 1",
                     "nosquare 3", "ring 2"):
            rule = read_rule(THREE, line)
            first = rule.holds(filling)
            self.assertEqual(filling, [1, 1, 2, 1, 2, 2, 3, 3, 3])
            rule.holds([3] * 9)
            self.assertIs(rule.holds(filling), first)
            self.assertEqual(rule.line(), line)


if __name__ == "__main__":
    unittest.main()

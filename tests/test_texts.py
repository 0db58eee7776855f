"""Texts of puzzles (point 27) and of books (point 28)."""

import copy
import random
import unittest

from cluemaker.errors import ClueError, NoFilling, NoFloor, NoPuzzle, NoRule, NoText
from cluemaker.puzzles import Puzzle
from cluemaker.solver import solve
from cluemaker.texts import read_book, read_puzzle, show_book, show_puzzle
from cluemaker.thinking import KINDS
from tests.making import puzzle_by

NO_TEXTS = [None, 0, 7, True, [], ["clue 0 0 1"], ("clue", 0, 0, 1, []), {}, b"", Puzzle((1, 1, 1), [], [0])]
NO_NUMBERS = ["", "00", "01", "007", "-1", "+1", "1.0", "1e1", "x", "1x", "1_0", "0x1", "1234567890", "0000000001",
              "\u0661", "\u00b2", "1\n", "\t1", "1,", "True", "None"]


class Refusing(unittest.TestCase):
    def refuse(self, kind, asked, note):
        with self.assertRaises(ClueError, msg=note) as taken:
            asked()
        self.assertIs(type(taken.exception), kind, note)


def parts(puzzle):
    return puzzle.place(), puzzle.lines(), puzzle.clues()


class PuzzlesRead(Refusing):
    def refuse_text(self, kind, text):
        self.refuse(kind, lambda: read_puzzle(text), text)

    def test_told_by_hand(self):
        for text, floor, lines, clues in (
                ("2 2 3 | unlike 0 1; sum 4 0 2 | 1./..", (2, 2, 3), ["unlike 0 1", "sum 4 0 2"], [1, 0, 0, 0]),
                ("2 2 3 |  | ../..", (2, 2, 3), [], [0] * 4),
                ("1 1 1 |  | 1", (1, 1, 1), [], [1]),
                ("1 3 6 | joined 6 | .65", (1, 3, 6), ["joined 6"], [0, 6, 5]),
                ("3 1 2 | count 0 2 2 0; rising 2 1 | ./2/1", (3, 1, 2), ["count 0 2 2 0", "rising 2 1"], [0, 2, 1])):
            puzzle = Puzzle(floor, lines, clues)
            self.assertEqual(show_puzzle(puzzle), text)
            self.assertIsInstance(read_puzzle(text), Puzzle)
            self.assertEqual(parts(read_puzzle(text)), (floor, lines, clues))

    def test_shown_and_read_again(self):
        chance = random.Random(271)
        for turn in range(300):
            puzzle = puzzle_by(chance)
            text = show_puzzle(puzzle)
            self.assertIs(type(text), str)
            self.assertEqual(parts(read_puzzle(text)), parts(puzzle))
            self.assertEqual(show_puzzle(read_puzzle(text)), text)
            self.assertEqual(text.count("|"), 2)

    def test_twelve_rules_sixteen_cells(self):
        lines = ["unlike " + " ".join(str(cell) for cell in range(16))] * 12
        puzzle = Puzzle((4, 4, 6), lines, [6] * 16)
        self.assertEqual(parts(read_puzzle(show_puzzle(puzzle))), parts(puzzle))

    def test_not_three_parts(self):
        for text in ("", " ", "|", "||", " | ", "2 2 3", "2 2 3 | ../..", "2 2 3 | | ../..", "2 2 3 ||../..",
                     "2 2 3|unlike 0 1|../..", "2 2 3 |unlike 0 1 | ../..", "2 2 3 | unlike 0 1| ../..",
                     "2 2 3 | unlike 0 1 | ../.. | ", "2 2 3 |  | ../.. | ../..", "2 2 3 |  |  | ../..",
                     "2 2 3 | unlike 0 1 |../..", "2 2 3  |unlike 0 1  |../..", "2 2 3 |\tunlike 0 1 | ../..",
                     "2 2 3\n | \n../..", "2 2 3 / unlike 0 1 / ../.."):
            self.refuse_text(NoText, text)

    def test_the_first_is_not_three_numbers(self):
        for first in ("", " ", "2", "2 2", "2 2 3 4", "2  2 3", " 2 2 3", "2 2 3 ", "2 2  3", "2,2,3", "2\t2\t3",
                      "2 2 3\n", "(2, 2, 3)", "two two three", "2 2 3."):
            self.refuse_text(NoText, first + " |  | ../..")
            # ahead of all that is refused else
            self.refuse_text(NoText, first + " | no rule | ..")
        for word in NO_NUMBERS:
            for first in (f"{word} 2 3", f"2 {word} 3", f"2 2 {word}"):
                self.refuse_text(NoText, first + " | unlike 0 1 | ../..")
                self.refuse_text(NoText, first + " | no rule | ..")
        # a number that is none goes ahead of a floor that is none
        self.refuse_text(NoText, "0 2 03 |  | ../..")

    def test_no_floor(self):
        for first in ("0 2 3", "2 0 3", "2 2 0", "7 2 3", "2 7 3", "2 2 7", "3 6 2", "6 3 2", "0 0 0", "999999999 2 3",
                      "2 999999999 3", "2 2 999999999", "999999999 999999999 999999999", "123456789 1 1"):
            self.refuse_text(NoFloor, first + " |  | ../..")
            self.refuse_text(NoFloor, first + " | no rule | ..")
            self.refuse_text(NoFloor, first + " | " + "; ".join(["no rule"] * 13) + " | ..")

    def test_too_many_rows(self):
        for rows in (["joined 1"] * 13, ["no rule"] * 13, [""] * 13, ["joined 1"] * 12 + [""], ["unlike 0"] * 40):
            self.refuse_text(NoPuzzle, "2 2 3 | " + "; ".join(rows) + " | ../..")
            self.refuse_text(NoPuzzle, "2 2 3 | " + "; ".join(rows) + " | no filling")
        self.assertEqual(len(read_puzzle("2 2 3 | " + "; ".join(["joined 1"] * 12) + " | ../..").lines()), 12)

    def test_no_rule(self):
        for rules in ("no rule", " ", "unlike", "unlike 4", "unlike 0 0", "unlike 0 1;", "unlike 0 1; ",
                      "; unlike 0 1", ";", "; ", "unlike 0 1;sum 4 0 2", "unlike 0 1 ; sum 4 0 2",
                      "unlike 0 1;  sum 4 0 2", " unlike 0 1", "unlike 0 1 ", "unlike  0 1", "unlike 0 1, sum 4 0 2",
                      "joined 4", "sum 100 0", "sum 04 0", "unlike 0 |1", "|", "unlike 0 1\n", "Unlike 0 1",
                      "unlike 0 1; unlike 0 1; joined 0"):
            self.refuse_text(NoRule, "2 2 3 | " + rules + " | ../..")
            self.refuse_text(NoRule, "2 2 3 | " + rules + " | no filling")

    def test_no_filling(self):
        for clues in ("", ".", "..", "../.", "../..\n", "../.. ", " ../..", "../../..", "4./..", "0./..", "1 ./..",
                      "....", "../.x", "12", "12/3", "12/34", "no filling", "/", "1./..|", "[1, 0, 0, 0]"):
            self.refuse_text(NoFilling, "2 2 3 | unlike 0 1 | " + clues)
            self.refuse_text(NoFilling, "2 2 3 |  | " + clues)

    def test_no_text(self):
        for text in NO_TEXTS:
            self.refuse_text(NoText, text)

    def test_every_sign_of_a_text_counts(self):
        text = "1 2 3 | sum 4 0 1; joined 2 | 1."
        right = parts(read_puzzle(text))
        for place in range(len(text)):
            cut = text[:place] + text[place + 1:]
            for other in [cut] + [text[:place] + sign + text[place:] for sign in " |;/.x0\n"]:
                try:
                    told = parts(read_puzzle(other))
                except ClueError:
                    continue
                self.assertEqual(show_puzzle(Puzzle(*told)), other)
                self.assertNotEqual(told, right)

    def test_what_is_handed_in_and_told_is_the_askers_own(self):
        text = "1 2 3 | sum 4 0 1; joined 2 | 1."
        puzzle = read_puzzle(text)
        puzzle.lines().clear()
        puzzle.clues().clear()
        read_puzzle(text).rules().clear()
        self.assertEqual(show_puzzle(puzzle), text)
        self.assertEqual(show_puzzle(puzzle), text)
        self.assertEqual(parts(read_puzzle(text)), ((1, 2, 3), ["sum 4 0 1", "joined 2"], [1, 0]))


def nested(many, inner):
    """A book with so many books in one another, itself counted, the innermost one handed in."""
    book = inner
    for turn in range(many - 1):
        book = [("suppose", 0, 1, 2, book)]
    return book


def book_by(chance, many):
    """A book of thoughts that need not be let by, with at most so many books in one another."""
    book = []
    for turn in range(chance.choice([0, 1, 1, 2, 3])):
        numbers = tuple(chance.choice([0, 1, 2, 9, 10, 15, 100, 999999999]) for part in range(3))
        if many > 1 and chance.random() < 0.5:
            book.append(("suppose",) + numbers + (book_by(chance, many - 1),))
        else:
            more = [chance.choice([0, 3, 12, 999999999]) for part in range(chance.randrange(4))]
            book.append((chance.choice(KINDS),) + numbers + (more,))
    return book


class BooksRead(Refusing):
    def refuse_text(self, text):
        self.refuse(NoText, lambda: read_book(text), text)

    def test_told_by_hand(self):
        for text, book in (
                ("", []),
                ("clue 0 3 1", [("clue", 0, 3, 1, [])]),
                ("only 4 0 2 1", [("only", 4, 0, 2, [1])]),
                ("pair 0 1 2 3 4", [("pair", 0, 1, 2, [3, 4])]),
                ("ways 0 3 1; ways 0 3 2", [("ways", 0, 3, 1, []), ("ways", 0, 3, 2, [])]),
                ("suppose 0 1 2 ()", [("suppose", 0, 1, 2, [])]),
                ("suppose 0 1 2 (suppose 3 4 5 ())", [("suppose", 0, 1, 2, [("suppose", 3, 4, 5, [])])]),
                ("clue 0 3 1; suppose 0 1 2 (only 4 0 2 1; ways 0 3 1)",
                 [("clue", 0, 3, 1, []), ("suppose", 0, 1, 2, [("only", 4, 0, 2, [1]), ("ways", 0, 3, 1, [])])]),
                ("suppose 0 1 2 (suppose 0 3 1 (); clue 0 0 1); suppose 0 0 1 (clue 0 2 2; suppose 1 1 1 ())",
                 [("suppose", 0, 1, 2, [("suppose", 0, 3, 1, []), ("clue", 0, 0, 1, [])]),
                  ("suppose", 0, 0, 1, [("clue", 0, 2, 2, []), ("suppose", 1, 1, 1, [])])]),
                ("suppose 0 0 1 (clue 0 2 2); sum 1 2 3",
                 [("suppose", 0, 0, 1, [("clue", 0, 2, 2, [])]), ("sum", 1, 2, 3, [])]),
                ("step 999999999 0 100", [("step", 999999999, 0, 100, [])])):
            self.assertEqual(show_book(book), text)
            self.assertEqual(read_book(text), book)

    def test_kinds_of_what_is_read(self):
        book = read_book("suppose 0 1 2 (pair 0 1 2 3 4)")
        self.assertEqual([type(book), type(book[0]), type(book[0][4])], [list, tuple, list])
        self.assertEqual([type(part) for part in book[0][4][0]], [str, int, int, int, list])

    def test_each_kind(self):
        for kind in KINDS:
            for more in ([], [0], [1, 2], list(range(12))):
                text = " ".join([kind, "0", "1", "2"] + [str(number) for number in more])
                self.assertEqual(read_book(text), [(kind, 0, 1, 2, more)])
                self.assertEqual(show_book([(kind, 0, 1, 2, more)]), text)

    def test_shown_and_read_again(self):
        chance = random.Random(281)
        for turn in range(400):
            book = book_by(chance, 5)
            text = show_book(book)
            self.assertIs(type(text), str)
            self.assertEqual(read_book(text), book)
            self.assertEqual(show_book(read_book(text)), text)

    def test_books_of_solving(self):
        chance = random.Random(282)
        for turn in range(60):
            told = solve(puzzle_by(chance))
            if told[0] != "two":
                self.assertEqual(read_book(show_book(told[-1])), told[-1])

    def test_sixteen_books_in_one_another_and_no_more(self):
        for inner in ([], [("clue", 0, 0, 1, [])], [("only", 4, 0, 2, [1]), ("ways", 0, 3, 1, [])]):
            for many in (1, 2, 15, 16):
                book = nested(many, inner)
                self.assertEqual(read_book(show_book(book)), book)
            for many in (17, 18, 40):
                text = show_book(nested(many, inner))
                self.refuse_text(text)
                self.refuse_text("clue 0 0 1; " + text)
        self.refuse_text("suppose 0 1 2 (" * 200 + ")" * 200)
        # beside one another there may be many of them
        wide = [("suppose", 0, 1, 2, nested(15, []))] * 10
        self.assertEqual(read_book(show_book(wide)), wide)
        self.refuse_text(show_book(wide + nested(17, [])))
        self.refuse_text(show_book(nested(17, []) + wide))

    def test_no_thoughts(self):
        for text in (" ", "clue", "clue 0", "clue 0 3", "suppose 0 1", "x", "x 0 3 1", "Clue 0 3 1", "clues 0 3 1",
                     "0 3 1", "0 0 3 1", " clue 0 3 1", "clue 0 3 1 ", "clue  0 3 1", "clue 0  3 1", "clue 0 3 1  2",
                     "clue,0,3,1", "clue\t0 3 1", "clue 0 3 1\n", "clue 0 3 1;", "clue 0 3 1; ", "; clue 0 3 1", ";",
                     "; ", "clue 0 3 1;clue 0 3 2", "clue 0 3 1 ; clue 0 3 2", "clue 0 3 1;  clue 0 3 2",
                     "clue 0 3 1; ; clue 0 3 2", "clue 0 3 1, clue 0 3 2", "clue 0 3 1 | clue 0 3 2", "clue 0 3 1 []",
                     "clue 0 3 1 clue", "[]", "None", "seen 0 3 1", "unlike 0 3 1", "('clue', 0, 3, 1, [])",
                     "clue 0 3 1; x 0 3 1", "clue 0 3 1; clue"):
            self.refuse_text(text)
            self.refuse_text("suppose 0 1 2 (" + text + ")")
            self.refuse_text("suppose 0 1 2 (clue 0 3 1; " + text + ")")

    def test_no_numbers(self):
        for word in NO_NUMBERS:
            for text in (f"clue {word} 3 1", f"clue 0 {word} 1", f"clue 0 3 {word}", f"only 0 3 1 {word}",
                         f"pair 0 3 1 2 {word}", f"pair 0 3 1 {word} 2", f"suppose {word} 1 2 (clue 0 3 1)",
                         f"suppose 0 {word} 2 (clue 0 3 1)", f"suppose 0 1 {word} (clue 0 3 1)",
                         f"suppose 0 1 {word} ()"):
                self.refuse_text(text)
                self.refuse_text("clue 0 0 1; " + text)
                self.refuse_text("suppose 0 1 2 (" + text + ")")

    def test_brackets(self):
        for text in ("(", ")", "()", ")(", "(clue 0 3 1)", "clue 0 3 1 ()", "clue 0 3 1 (clue 0 3 1)", "clue (0 3 1)",
                     "clue 0 3 1)", "suppose 0 1 2", "suppose 0 1 2 ", "suppose 0 1 2 (", "suppose 0 1 2 )",
                     "suppose 0 1 2()", "suppose 0 1 2  ()", "suppose 0 1 2 () ", "suppose 0 1 2 ())",
                     "suppose 0 1 2 (()", "suppose 0 1 2 (())", "suppose 0 1 2 ()()", "suppose 0 1 2 () ()",
                     "suppose 0 1 2 ( )", "suppose 0 1 2 3 ()", "suppose 0 1 ()", "suppose 0 1 2 3",
                     "suppose 0 1 2 (clue 0 3 1", "suppose 0 1 2 clue 0 3 1", "suppose 0 1 2 clue 0 3 1)",
                     "suppose (0 1 2 ())", "suppose 0 1 2 ( clue 0 3 1)", "suppose 0 1 2 (clue 0 3 1 )",
                     "suppose 0 1 2 (clue 0 3 1) 4", "suppose 0 1 2 [clue 0 3 1]", "suppose 0 1 2 (clue 0 3 1; )",
                     "suppose 0 1 2 (; clue 0 3 1)", "suppose 0 1 2 (clue 0 3 1); )",
                     "suppose 0 1 2 (clue 0 3 1)); ((clue 0 3 1)", "suppose 0 1 2 (clue 0 3 1) (clue 0 3 1)",
                     "suppose 0 1 2 (clue 0 3 1)(clue 0 3 1)", "suppose 0 1 2 (suppose 0 1 2 ()",
                     "suppose 0 1 2 (suppose 0 1 2 (); clue 0 3 1", "clue 0 3 1); (clue 0 3 1",
                     "suppose 0 1 2 (clue 0 3 1); clue 0 3 1)", "(suppose 0 1 2 ())", "suppose 0 1 2 (suppose 0 1 2)",
                     "suppose", "suppose ", "suppose ()", "suppose (clue 0 3 1)", "supposed 0 1 2 ()",
                     "only 0 1 2 3 ()"):
            self.refuse_text(text)
            self.refuse_text("clue 0 0 1; " + text)
            self.refuse_text("suppose 0 1 2 (" + text + ")")

    def test_many_brackets(self):
        for text in ("(" * 4000, ")" * 4000, "()" * 2000, "; " * 2000, " " * 4000, ";" * 4000, "suppose 0 1 2 (" * 266,
                     "clue 0 0 1; " * 333):
            self.refuse_text(text)

    def test_no_text(self):
        for text in NO_TEXTS:
            self.refuse_text(text)

    def test_long_books(self):
        book = [("clue", 0, 3, 1, []), ("suppose", 0, 1, 2, [("pair", 4, 0, 2, [1, 15])] * 40)] * 100
        self.assertEqual(read_book(show_book(book)), book)

    def test_every_sign_of_a_text_counts(self):
        text = "clue 0 3 1; suppose 0 1 2 (only 4 0 2 1; suppose 0 3 1 ())"
        right = read_book(text)
        for place in range(len(text)):
            cut = text[:place] + text[place + 1:]
            for other in [cut] + [text[:place] + sign + text[place:] for sign in " ();0\nx"]:
                try:
                    told = read_book(other)
                except NoText:
                    continue
                self.assertEqual(show_book(told), other)
                self.assertNotEqual(told, right)

    def test_what_is_handed_in_and_told_is_the_askers_own(self):
        text = "clue 0 3 1; suppose 0 1 2 (only 4 0 2 1; ways 0 3 1)"
        book = read_book(text)
        before = copy.deepcopy(book)
        self.assertEqual(show_book(book), text)
        self.assertEqual(book, before)
        book[1][4][0][4].append(7)
        book[1][4].pop()
        book[0][4].append(3)
        self.assertEqual(read_book(text), before)
        self.assertEqual(show_book(before), text)
        read_book("").append(("clue", 0, 3, 1, []))
        self.assertEqual(read_book(""), [])


if __name__ == "__main__":
    unittest.main()

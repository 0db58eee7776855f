"""The desk: its rows, its answers and what it refuses (point 29)."""

import random
import unittest

from cluemaker.alike import alike
from cluemaker.books import follow
from cluemaker.desk import Desk
from cluemaker.errors import BadThought, ClueError, NoFilling, NoFloor, NoName, NoPuzzle, NoRow, NoRule, NoText
from cluemaker.errors import NotOne, TooMany
from cluemaker.fillings import show_filling
from cluemaker.hints import hint, wrong
from cluemaker.maker import least
from cluemaker.masks import filling_by, ways
from cluemaker.moves import moved
from cluemaker.needed import needed
from cluemaker.solver import solve
from cluemaker.texts import read_book, show_book, show_puzzle
from cluemaker.thinking import KINDS
from tests.making import puzzle_by

ONE = "1 3 3 | unlike 0 1 2 | .12"
TWO = "1 2 2 | unlike 0 1 | .."
NONE = "1 3 2 | unlike 0 1; unlike 1 2; unlike 2 0 | ..."
RESTS = "2 2 3 |  | ../.."
# all kinds leave some of it open, and a supposing settles it
SUPPOSED = "2 3 2 | ring 1; count 1 1 4; count 1 2 5 3 2 | .../..."
ALL = [ONE, TWO, NONE, RESTS, SUPPOSED]

OF_A_NAME = ["drop", "show", "solve", "book", "needs", "least"]
OF_A_TEXT = ["check", "hint", "wrong"]
NO_NAMES = ["", "A", "Ab", "aB", "a1", "1", "0", "a-b", "a_b", "abcdefghi", "puzzlepuzzle", "a\n", "\ta", "a;",
            "\u00e9", "\u00df", "\u03b1", "a\u0301"]


class Asking(unittest.TestCase):
    def setUp(self):
        self.desk = Desk()

    def put(self, name, text):
        self.assertEqual(self.desk.say(f"puzzle {name} {text}"), "ok")

    def tell(self, row, answer):
        self.assertEqual(self.desk.say(row), answer, row)
        self.assertIs(type(self.desk.say(row)), str)
        self.assertEqual(self.desk.say(row), answer, row)

    def refuse(self, kind, row):
        with self.assertRaises(ClueError, msg=row) as taken:
            self.desk.say(row)
        self.assertIs(type(taken.exception), kind, row)
        return taken.exception


class Keeping(Asking):
    def test_put_and_shown(self):
        for text in ALL:
            self.put("a", text)
            self.tell("show a", text)

    def test_names(self):
        for name in ("a", "z", "puzzle", "show", "ok", "abcdefgh", "stuvwxyz", "zzzzzzzz", "aaaaaaa"):
            self.put(name, ONE)
            self.tell(f"show {name}", ONE)
        for name in NO_NAMES:
            self.refuse(NoName, f"puzzle {name} {ONE}")
            self.refuse(NoName, f"puzzle {name} no text")
            for word in OF_A_NAME:
                self.refuse(NoName, f"{word} {name}")
            for word in OF_A_TEXT:
                self.refuse(NoName, f"{word} {name} ...")
                self.refuse(NoName, f"{word} {name} ")
            self.refuse(NoName, f"alike {name} a")
            self.refuse(NoName, f"alike a {name}")

    def test_many_names(self):
        names = [one + other for one in "abcdefghij" for other in "klmnopqrst"]
        for place, name in enumerate(names):
            self.put(name, ALL[place % 5])
        for place, name in enumerate(names):
            self.tell(f"show {name}", ALL[place % 5])

    def test_one_takes_the_place_of_another(self):
        self.put("a", ONE)
        self.put("b", ONE)
        self.put("a", TWO)
        self.tell("show a", TWO)
        self.tell("show b", ONE)
        self.put("a", RESTS)
        self.tell("solve a", "rests")

    def test_dropped(self):
        self.put("a", ONE)
        self.put("b", TWO)
        self.assertEqual(self.desk.say("drop a"), "ok")
        self.refuse(NoName, "show a")
        self.refuse(NoName, "drop a")
        self.tell("show b", TWO)
        self.put("a", NONE)
        self.tell("show a", NONE)
        self.assertEqual(self.desk.say("drop b"), "ok")
        self.refuse(NoName, "solve b")

    def test_desks_beside_one_another(self):
        other = Desk()
        self.put("a", ONE)
        other.say(f"puzzle a {TWO}")
        other.say(f"puzzle b {TWO}")
        self.tell("show a", ONE)
        self.assertEqual(other.say("show a"), TWO)
        self.refuse(NoName, "show b")
        self.desk.say("drop a")
        self.refuse(NoName, "show a")
        self.assertEqual(other.say("show a"), TWO)
        self.desk = Desk()
        self.refuse(NoName, "show a")

    def test_no_puzzle_by_this_name(self):
        self.put("a", ONE)
        for name in ("b", "aa", "abcdefgh"):
            for word in OF_A_NAME:
                self.refuse(NoName, f"{word} {name}")
            for word in OF_A_TEXT:
                self.refuse(NoName, f"{word} {name} 312")
                self.refuse(NoName, f"{word} {name} no text")
            self.refuse(NoName, f"alike a {name}")
            self.refuse(NoName, f"alike {name} a")
            self.refuse(NoName, f"alike {name} {name}")


class RefusedTexts(Asking):
    def test_of_a_puzzle_and_nothing_is_changed(self):
        self.put("a", ONE)
        for kind, text in ((NoText, ""), (NoText, " "), (NoText, "no text"), (NoText, "1 3 03 |  | ..."),
                           (NoText, " " + ONE), (NoText, ONE + " | "), (NoFloor, "1 7 3 |  | ..."),
                           (NoPuzzle, "1 3 3 | " + "; " * 12 + " | ..."), (NoRule, "1 3 3 | unlike 3 | ..."),
                           (NoRule, "1 3 3 |  unlike 2 | ..."), (NoFilling, "1 3 3 |  | ...."), (NoFilling, ONE + " ")):
            self.refuse(kind, "puzzle a " + text)
            self.tell("show a", ONE)
            self.refuse(kind, "puzzle b " + text)
            self.refuse(NoName, "show b")

    def test_of_a_book(self):
        self.put("a", ONE)
        for text in ("no text", "clue", " ", "clue 0 0 1 ", " clue 0 1 2", "clue 0 1 2;", "suppose 0 0 1",
                     "suppose 0 0 1 ("):
            self.refuse(NoText, "check a " + text)
        for text, at in (("clue 0 0 1", [0]), ("clue 0 1 2; clue 0 1 2", [1]), ("suppose 0 0 1 ()", [0]),
                         ("clue 0 1 2; suppose 0 0 1 (clue 0 2 1; clue 0 0 1)", [1, 1])):
            self.assertEqual(self.refuse(BadThought, "check a " + text).at, at)

    def test_of_a_filling(self):
        self.put("a", ONE)
        for word in ("hint", "wrong"):
            for text in ("", " ", "..", "....", "4..", "0..", "./..", "... ", " ...", "...\n", ". ."):
                self.refuse(NoFilling, f"{word} a {text}")


class Rows(Asking):
    def test_none_of_these_rows(self):
        self.put("a", ONE)
        for row in ("", " ", "  ", "a", "say a", "Show a", "SHOW a", "shows a", "show\ta", "show", "show a b",
                    "show a ", " show a", "show  a", "show a\n ", "puzzle", "puzzle a", "puzzle ", " puzzle a " + TWO,
                    "check", "check a", "check ", "hint a", "hint ", "wrong a", "alike", "alike ", "alike a",
                    "alike a a a", "alike a a ", "alike  a a", " alike a a", "drop", "drop a ", "drop  a", "drop a a",
                    "solve", "solve a 1", "book", "book a 1", "needs", "needs a clue", "least", "least a 1",
                    "nothing a", "ok", "one a", "puzzles a " + TWO, "puzzle\ta\t" + TWO, "\n", "show a\nshow a b",
                    "puzzle;a;" + TWO, "1 3 3 |  | ..."):
            self.refuse(NoRow, row)
            self.tell("show a", ONE)

    def test_words_without_signs(self):
        self.put("a", ONE)
        # they count as words, so that these have as many as are needed, but are no names
        for row in ("show ", "drop ", "solve ", "book ", "needs ", "least ", "puzzle  " + ONE, "puzzle  ", "check  ",
                    "check  x", "hint  ...", "wrong  ...", "alike a ", "alike  a", "alike  "):
            self.refuse(NoName, row)
        self.tell("show a", ONE)

    def test_no_texts(self):
        self.put("a", ONE)
        for row in (None, 0, 1, True, [], ["show", "a"], ("show", "a"), {}, b"show a", Desk()):
            self.refuse(NoRow, row)
        self.tell("show a", ONE)

    def test_a_row_that_is_none_goes_ahead_of_names_and_texts(self):
        for row in ("show 1 2", "puzzle 1", "alike 1", "alike 1 2 3", "say 1", "check 1", "solve b x", "puzzle b"):
            self.refuse(NoRow, row)
        self.refuse(NoName, "puzzle 1 no text")
        self.refuse(NoName, "check b no text")
        self.refuse(NoName, "hint b no text")

    def test_a_text_with_nothing_in_it(self):
        self.put("a", ONE)
        self.refuse(NoText, "puzzle a ")
        self.refuse(NoText, "puzzle b ")
        self.tell("check a ", "open 27")
        self.refuse(NoFilling, "hint a ")
        self.refuse(NoFilling, "wrong a ")


class Answers(Asking):
    def test_solve(self):
        for text, answer in ((ONE, "one 312"), (NONE, "none"), (RESTS, "rests"), (SUPPOSED, "one 211/211"),
                             ("1 1 1 |  | .", "one 1"), ("2 2 2 | sum 5 0 1 | ../..", "none")):
            self.put("a", text)
            self.tell("solve a", answer)
        self.put("a", TWO)
        self.assertIn(self.desk.say("solve a"), ("two 12 21", "two 21 12"))
        self.put("a", "3 1 2 |  | 1/./2")
        self.assertIn(self.desk.say("solve a"), ("two 1/1/2 1/2/2", "two 1/2/2 1/1/2"))

    def test_book(self):
        for text, checked in ((ONE, "one 312"), (NONE, "none"), (RESTS, "open 81"), (SUPPOSED, "one 211/211"),
                              ("1 1 1 |  | .", "one 1"), ("2 2 6 |  | 1./..", "open 216")):
            self.put("a", text)
            book = self.desk.say("book a")
            self.assertIs(type(book), str)
            self.tell("check a " + book, checked)
        self.tell("book a", "clue 0 0 2; clue 0 0 3; clue 0 0 4; clue 0 0 5; clue 0 0 6")
        self.put("a", RESTS)
        self.tell("book a", "")
        self.put("a", TWO)
        self.refuse(NotOne, "book a")

    def test_check(self):
        self.put("a", ONE)
        for text, answer in (("", "open 27"), ("clue 0 1 2", "open 18"),
                             ("clue 0 1 2; clue 0 1 3; clue 0 2 1; clue 0 2 3", "open 3"),
                             ("clue 0 1 2; clue 0 1 3; clue 0 2 1; clue 0 2 3; only 0 0 1 1; only 0 0 2 2", "one 312"),
                             ("clue 0 1 2; suppose 0 1 3 (clue 0 1 3)", "open 9")):
            self.tell("check a " + text, answer)
        self.put("b", NONE)
        self.tell("check b suppose 0 0 1 (only 0 1 1 0; only 2 2 1 0; only 1 1 2 2)", "open 4")
        self.tell("check b suppose 0 0 1 (only 0 1 1 0; only 2 2 1 0; only 1 1 2 2); "
                  "suppose 0 0 2 (only 0 1 2 0; only 2 2 2 0; only 1 1 1 2)", "none")
        self.put("c", "2 2 1 |  | ../..")
        self.tell("check c ", "one 11/11")
        # settled masks are told, also where a rule is not met by them
        self.put("d", "1 2 1 | unlike 0 1 | ..")
        self.tell("check d ", "one 11")
        self.tell("check d only 0 0 1 1", "none")

    def test_needs(self):
        for text, answer in ((ONE, "clue only"), (TWO, "more"), (NONE, "more"), (RESTS, "more"), (SUPPOSED, "more"),
                             ("1 1 1 |  | .", "nothing"), ("2 2 1 | joined 1 | ../..", "nothing"),
                             ("2 1 1 | unlike 0 1 | ./.", "more"), ("1 2 3 |  | 12", "clue"),
                             ("1 2 2 | rising 0 1 | ..", "step"), ("1 3 3 | seen 3 0 1 2 | ...", "ways")):
            self.put("a", text)
            self.tell("needs a", answer)

    def test_least(self):
        for text, answer in ((ONE, "least"), ("1 3 3 | unlike 0 1 2 | 312", "spare 0"),
                             ("1 3 2 | rising 0 1 | .22", "spare 1"), ("1 1 1 |  | .", "least"),
                             ("1 3 2 | rising 0 1 | ..2", "least"), ("2 2 2 | unlike 0 1 | 12/12", "spare 0"),
                             ("1 2 6 |  | 12", "least"), (SUPPOSED, "least")):
            self.put("a", text)
            self.tell("least a", answer)
        for text in (TWO, NONE, RESTS):
            self.put("a", text)
            self.refuse(NotOne, "least a")

    def test_least_rests(self):
        # without its clue six cells stay open, with two signs each
        self.put("a", "1 6 2 | unlike 0 1; unlike 1 2; unlike 2 3; unlike 3 4; unlike 4 5 | 1.....")
        self.tell("least a", "rests 0")
        self.put("a", "2 4 2 | unlike 1 2; unlike 2 3; unlike 3 4; unlike 4 5; unlike 5 6; unlike 6 7 | 11../....")
        self.tell("least a", "rests 1")
        # and here five, which is not too many
        self.put("a", "1 6 2 | sum 2 5; unlike 0 1; unlike 1 2; unlike 2 3; unlike 3 4 | .1...2")
        self.tell("least a", "spare 5")

    def test_hint(self):
        self.put("a", ONE)
        for text, answer in (("...", "clue 0 1 2"), (".12", "only 0 0 1 1"), (".1.", "clue 0 2 1"),
                             ("312", "nothing"), ("112", "only 0 0 1 1"), ("3.1", "clue 0 1 2"), (".2.", "clue 0 1 2")):
            self.tell("hint a " + text, answer)
        self.put("a", RESTS)
        self.tell("hint a ../..", "nothing")
        self.put("a", "1 3 3 | unlike 0 1 2; sum 6 0 1 2 | ...")
        self.tell("hint a 1..", "only 0 1 1 0")

    def test_wrong(self):
        self.put("a", ONE)
        for text, answer in (("...", "nothing"), ("312", "nothing"), ("3..", "nothing"), ("1..", "0"), (".2.", "1"),
                             ("12.", "0"), ("122", "0"), ("3.1", "2")):
            self.tell("wrong a " + text, answer)
        self.put("a", "1 3 3 | unlike 0 1 2 | ...")
        for text, answer in (("11.", "0 1"), (".22", "1 2"), ("3.3", "0 2"), ("123", "nothing"), ("113", "0 1")):
            self.tell("wrong a " + text, answer)
        self.put("a", "1 2 2 | unlike 0 1 | 11")
        for text in ("..", "1.", "12", "21", "11"):
            self.tell("wrong a " + text, "clues")

    def test_alike(self):
        self.put("a", "1 2 3 | unlike 0 1 | .2")
        for text, answer in (("1 2 3 | unlike 0 1 | .2", "yes"), ("2 1 3 | unlike 1 0 | 3/.", "yes"),
                             ("1 2 3 | unlike 0 1 | ..", "no"), ("1 2 2 | unlike 0 1 | .2", "no"),
                             ("1 3 3 | unlike 0 1 | .2.", "no")):
            self.put("b", text)
            self.tell("alike a b", answer)
            self.tell("alike b a", answer)
        self.tell("alike a a", "yes")
        self.put("b", "1 2 5 | unlike 0 1 | .2")
        for row in ("alike a b", "alike b a", "alike b b"):
            self.refuse(TooMany, row)


class AnswersByChance(Asking):
    def solved(self, puzzle):
        told = solve(puzzle)
        fillings = [show_filling(puzzle.place(), part) for part in told[1:] if told[0] == "two"]
        fillings += [show_filling(puzzle.place(), part) for part in told[1:2] if told[0] == "one"]
        return " ".join([told[0]] + fillings)

    def checked(self, puzzle, text):
        masks = follow(puzzle, read_book(text))
        if 0 in masks:
            return "none"
        return "one " + show_filling(puzzle.place(), filling_by(masks)) if ways(masks) == 1 else f"open {ways(masks)}"

    def needs(self, puzzle):
        told = needed(puzzle)
        return "more" if told is None else " ".join(told[0]) or "nothing"

    def asked_of_one(self, puzzle):
        told = solve(puzzle)
        self.tell("show a", show_puzzle(puzzle))
        self.tell("solve a", self.solved(puzzle))
        self.tell("needs a", self.needs(puzzle))
        if told[0] == "two":
            self.refuse(NotOne, "book a")
        else:
            self.tell("book a", show_book(told[-1]))
            self.tell("check a " + show_book(told[-1]), self.checked(puzzle, show_book(told[-1])))
            self.tell("check a " + show_book(told[-1][:1]), self.checked(puzzle, show_book(told[-1][:1])))
        if told[0] == "one":
            self.tell("least a", " ".join(str(part) for part in least(puzzle)[:2] if not isinstance(part, list)))
        else:
            self.refuse(NotOne, "least a")

    def asked_of_entries(self, puzzle, entries):
        text = show_filling(puzzle.place(), entries)
        thought = hint(puzzle, entries)
        self.tell("hint a " + text, "nothing" if thought is None else show_book([thought]))
        told = wrong(puzzle, entries, list(KINDS))
        self.tell("wrong a " + text, "nothing" if told is None else " ".join(str(cell) for cell in told[0]) or "clues")

    def test_by_chance(self):
        chance = random.Random(291)
        seen = {}
        for turn in range(60):
            puzzle = puzzle_by(chance)
            self.put("a", show_puzzle(puzzle))
            self.asked_of_one(puzzle)
            signs = [0, 0, 0] + list(range(1, puzzle.place()[2] + 1))
            self.asked_of_entries(puzzle, [chance.choice(signs) for clue in puzzle.clues()])
            other = moved(puzzle, chance.randrange(8)) if turn % 2 else puzzle_by(chance)
            self.put("b", show_puzzle(other))
            self.tell("alike a b", "no" if alike(puzzle, other) is None else "yes")
            seen[solve(puzzle)[0]] = True
        self.assertEqual(sorted(seen), ["none", "one", "rests", "two"])


class NothingChanged(Asking):
    def test_by_rows_that_are_refused_or_only_ask(self):
        for place, text in enumerate(ALL):
            self.put("abcde"[place], text)
        for row in ("show f", "drop f", "drop A", "drop a ", "puzzle A " + ONE, "puzzle a x", "puzzle f x",
                    "puzzle a", "alike a f", "check a x", "check a clue 0 0 1", "hint a x", "wrong a x", "book b",
                    "least c", "", None, 3):
            with self.assertRaises(ClueError):
                self.desk.say(row)
            for place, text in enumerate(ALL):
                self.tell("show " + "abcde"[place], text)
            self.refuse(NoName, "show f")
        for row in ("solve a", "book a", "needs a", "least a", "check a clue 0 1 2", "hint a ...", "wrong a 1..",
                    "alike a b", "solve b", "book c", "book d", "solve e", "book e"):
            self.desk.say(row)
            for place, text in enumerate(ALL):
                self.tell("show " + "abcde"[place], text)


if __name__ == "__main__":
    unittest.main()

"""Books (points 11 to 14): followed to masks, refused at the right place, supposings let by or not, and what they bear
on."""

import copy
import itertools
import random
import unittest

from cluemaker.books import bears_on, follow, follow_from, let_by
from cluemaker.errors import BadThought, ClueError
from cluemaker.puzzles import Puzzle
from cluemaker.thoughts import allowed, rests_on

# the answers are 123, 132 and 231
PUZZLE = Puzzle((1, 3, 3), ["unlike 0 1 2", "rising 0 1"], [0, 0, 0])
# the one answer is 132
CLUED = Puzzle((1, 3, 3), ["unlike 0 1 2", "rising 0 1"], [0, 0, 2])
FULL = [7, 7, 7]

# from all masks let by; with 1 alone at cell 1, so are the three that empty cell 0
NOT_3_AT_0 = ("step", 1, 0, 3, [])
NOT_1_AT_1 = ("step", 1, 1, 1, [])
EMPTY_0 = [("step", 1, 0, 1, []), ("step", 1, 0, 2, []), ("step", 1, 0, 3, [])]
SUPPOSING = ("suppose", 0, 1, 1, EMPTY_0)
# let by from masks with 1 alone at cell 2, not from all masks
NOT_1_AT_0 = ("only", 0, 0, 1, [2])
NEVER = ("clue", 0, 0, 1, [])


def nested(many, innermost):
    """So many supposings in one another of 1 at cell 0, the last one with this book."""
    thought = ("suppose", 0, 0, 1, innermost)
    for turn in range(many - 1):
        thought = ("suppose", 0, 0, 1, [thought])
    return thought


class Asked(unittest.TestCase):
    def refused(self, at, puzzle, masks, book):
        with self.assertRaises(BadThought) as caught:
            follow_from(puzzle, masks, book)
        self.assertEqual(caught.exception.at, at, book)
        self.assertIs(type(caught.exception.at), list)
        self.assertIsInstance(caught.exception, ClueError)
        if masks == [2 ** puzzle.place()[2] - 1] * len(masks):
            with self.assertRaises(BadThought) as caught:
                follow(puzzle, book)
            self.assertEqual(caught.exception.at, at, book)

    def followed(self, masks, puzzle, start, book):
        self.assertEqual(follow_from(puzzle, start, book), masks, book)
        if start == [2 ** puzzle.place()[2] - 1] * len(start):
            self.assertEqual(follow(puzzle, book), masks, book)


class Followed(Asked):
    def test_a_book_without_thoughts(self):
        self.assertEqual(follow(PUZZLE, []), [7, 7, 7])
        self.assertEqual(follow(Puzzle((2, 2, 5), [], [1, 2, 3, 4]), []), [31, 31, 31, 31])
        self.assertEqual(follow(Puzzle((1, 1, 1), [], [0]), []), [1])
        for masks in ([7, 5, 1], [0, 7, 7], [0, 0, 0]):
            self.assertEqual(follow_from(PUZZLE, masks, []), masks)

    def test_from_the_start(self):
        self.followed([3, 7, 7], PUZZLE, FULL, [NOT_3_AT_0])
        self.followed([3, 6, 7], PUZZLE, FULL, [NOT_3_AT_0, NOT_1_AT_1])
        self.followed([3, 6, 7], PUZZLE, FULL, [SUPPOSING, NOT_3_AT_0])
        self.followed([1, 4, 2], CLUED, FULL, [
            ("clue", 0, 2, 1, []), ("clue", 0, 2, 3, []), ("only", 0, 0, 2, [2]), ("only", 0, 1, 2, [2]),
            NOT_3_AT_0, NOT_1_AT_1])

    def test_to_a_clash_at_the_very_end(self):
        puzzle = Puzzle((1, 2, 2), ["unlike 0 1"], [1, 1])
        book = [("clue", 0, 0, 2, []), ("clue", 0, 1, 2, []), ("only", 0, 0, 1, [1])]
        self.followed([0, 1], puzzle, [3, 3], book)
        self.refused([3], puzzle, [3, 3], book + [("only", 0, 1, 1, [0])])

    def test_from_other_masks(self):
        self.followed([6, 7, 1], PUZZLE, [7, 7, 1], [NOT_1_AT_0])
        self.refused([0], PUZZLE, FULL, [NOT_1_AT_0])
        self.followed([2, 6, 1], PUZZLE, [3, 7, 1], [NOT_1_AT_1, NOT_1_AT_0])
        self.followed([0, 1, 7], PUZZLE, [7, 1, 7], EMPTY_0)

    def test_supposings_strike_like_others(self):
        self.followed([7, 6, 7], PUZZLE, FULL, [SUPPOSING])
        self.refused([1], PUZZLE, FULL, [SUPPOSING, SUPPOSING])
        self.refused([1], PUZZLE, FULL, [SUPPOSING, NOT_1_AT_1])
        # with the clue 2 at cell 2 there is neither 2 nor 1 at cell 1
        clues = [("clue", 0, 2, 1, []), ("clue", 0, 2, 3, [])]
        not_2 = ("suppose", 0, 1, 2, clues + [("only", 0, 2, 2, [1])])
        self.followed([7, 4, 7], CLUED, FULL, [SUPPOSING, not_2])
        self.followed([7, 4, 2], CLUED, FULL, [clues[0], SUPPOSING, not_2, clues[1]])


class Refused(Asked):
    def test_behind_a_clash(self):
        self.refused([3], PUZZLE, [7, 1, 7], EMPTY_0 + [("step", 1, 1, 1, [])])
        self.refused([3], PUZZLE, [7, 1, 7], EMPTY_0 + [NEVER])
        self.refused([3], PUZZLE, [7, 1, 7], EMPTY_0 + [("suppose", 0, 2, 1, [NEVER])])
        self.refused([3], PUZZLE, [7, 1, 7], EMPTY_0 + [("suppose", 0, 2, 1, EMPTY_0), NEVER, NEVER])

    def test_the_very_first_from_masks_that_clash(self):
        for masks in ([0, 7, 7], [7, 7, 0], [0, 0, 0]):
            for thought in (NOT_3_AT_0, NOT_1_AT_1, NEVER, SUPPOSING, ("suppose", 0, 2, 1, [NEVER]), ("", 9, 9, 9, [])):
                self.refused([0], PUZZLE, masks, [thought])
                self.refused([0], PUZZLE, masks, [thought, thought])

    def test_what_does_not_stand(self):
        self.refused([1], PUZZLE, FULL, [NOT_3_AT_0, NOT_3_AT_0])
        self.refused([0], PUZZLE, [3, 7, 7], [NOT_3_AT_0])
        self.refused([2], PUZZLE, FULL, [NOT_3_AT_0, NOT_1_AT_1, NOT_3_AT_0, NEVER])

    def test_a_supposing_that_strikes_what_does_not_stand(self):
        # whatever its book has, it is the supposing itself
        for book in (EMPTY_0, [NEVER], [], [("suppose", 0, 0, 1, [NEVER])], [("", -1, -1, -1, [])]):
            self.refused([0], PUZZLE, [7, 6, 7], [("suppose", 0, 1, 1, book)])
            self.refused([1], PUZZLE, FULL, [NOT_1_AT_1, ("suppose", 0, 1, 1, book)])

    def test_not_let_by(self):
        self.refused([0], PUZZLE, FULL, [NEVER])
        self.refused([1], PUZZLE, FULL, [NOT_3_AT_0, ("step", 1, 0, 2, []), NEVER])
        self.refused([2], CLUED, FULL, [("clue", 0, 2, 1, []), NOT_3_AT_0, ("clue", 0, 2, 2, [])])

    def test_of_no_told_form(self):
        for thought in (("", 1, 0, 3, []), ("stepp", 1, 0, 3, []), ("step", -1, 0, 3, []), ("step", 2, 0, 3, []),
                        ("step", 10 ** 59, 0, 3, []), ("step", 1, -1, 3, []), ("step", 1, 3, 3, []),
                        ("step", 1, -10 ** 59, 3, []), ("step", 1, 0, 0, []), ("step", 1, 0, 4, []),
                        ("step", 1, 0, -1, []), ("step", 1, 0, 10 ** 59, []), ("step", 1, 0, 3, [1]),
                        ("step", 1, 0, 3, [-1]), ("step", 1, 0, 3, [NOT_3_AT_0])):
            self.refused([0], PUZZLE, FULL, [thought])
            self.refused([1], PUZZLE, FULL, [NOT_1_AT_1, thought, NOT_3_AT_0])


class Supposing(Asked):
    def asked(self, at, masks, thought):
        """let_by, and as the second thought of a book; at is None where it is let by."""
        puzzle = PUZZLE
        self.assertIs(let_by(puzzle, masks, thought), at is None, (masks, thought))
        cell, sign = thought[2], thought[3]
        if at is not None:
            self.refused([0] + at, puzzle, masks, [thought])
        else:
            struck = list(masks)
            struck[cell] -= 2 ** (sign - 1)
            self.followed(struck, puzzle, masks, [thought])

    def test_let_by(self):
        self.asked(None, FULL, SUPPOSING)
        self.asked(None, [7, 1, 7], SUPPOSING)
        self.asked(None, FULL, ("suppose", 0, 0, 3, [("step", 1, 1, sign, []) for sign in (3, 2, 1)]))

    def test_its_own_form(self):
        for rule in (-1, 1, 2, 10 ** 59):
            self.asked([], FULL, ("suppose", rule, 1, 1, EMPTY_0))
            # whatever its book has
            self.asked([], FULL, ("suppose", rule, 1, 1, [NEVER]))
        for cell in (-1, -3, 3, 4, 10 ** 59):
            self.asked([], FULL, ("suppose", 0, cell, 1, EMPTY_0))
            self.asked([], FULL, ("suppose", 0, cell, 1, [NEVER]))
        for sign in (-1, 0, 4, 10 ** 59):
            self.asked([], FULL, ("suppose", 0, 1, sign, EMPTY_0))
            self.asked([], FULL, ("suppose", 0, 1, sign, [NEVER]))
        self.asked([], FULL, ("suppose", 0, 1, 1, []))

    def test_its_form_is_asked_where_masks_clash_too(self):
        masks = [7, 7, 0]
        self.assertIs(let_by(PUZZLE, masks, ("suppose", 0, 1, 1, [NEVER])), True)
        for thought in (("suppose", 1, 1, 1, [NEVER]), ("suppose", -1, 1, 1, [NEVER]), ("suppose", 0, 3, 1, [NEVER]),
                        ("suppose", 0, -1, 1, [NEVER]), ("suppose", 0, 1, 0, [NEVER]), ("suppose", 0, 1, 4, [NEVER]),
                        ("suppose", 0, 1, 1, [])):
            self.assertIs(let_by(PUZZLE, masks, thought), False, thought)

    def test_no_clash_at_its_end(self):
        for many in range(1, 3):
            self.asked([], FULL, ("suppose", 0, 1, 1, EMPTY_0[:many]))
        self.asked([], FULL, ("suppose", 0, 0, 1, [NOT_1_AT_1]))
        # what is passed over strikes nothing, and leads to no clash
        self.asked([], FULL, ("suppose", 0, 0, 1, [NOT_3_AT_0, NOT_3_AT_0]))

    def test_the_first_inside_that_is_not_let_by(self):
        for place in range(3):
            book = EMPTY_0[:place] + [("clue", 0, 2, 2, [])] + EMPTY_0[place:]
            self.asked([place], FULL, ("suppose", 0, 1, 1, book))
            self.asked([place], FULL, ("suppose", 0, 1, 1, book + [NEVER]))
        self.asked([1], FULL, ("suppose", 0, 1, 1, [EMPTY_0[0], NOT_1_AT_1[:3] + (1, [5]), EMPTY_0[1]]))
        self.asked([0], FULL, ("suppose", 0, 0, 2, [("clue", 0, 1, 2, []), ("clue", 0, 2, 2, [])]))

    def test_behind_a_clash_all_is_passed_over(self):
        for thought in (NEVER, ("clue", 0, 1, 1, []), ("", 0, 1, 1, []), ("step", 9, 1, 1, []), ("step", 1, 9, 1, []),
                        ("step", 1, 1, 9, []), ("step", -1, -1, -1, [-1]), ("suppose", 0, 1, 1, []),
                        ("suppose", 5, 5, 5, [NEVER]), ("suppose", 0, 1, 1, [NEVER])):
            self.asked(None, FULL, ("suppose", 0, 1, 1, EMPTY_0 + [thought]))
            self.asked(None, FULL, ("suppose", 0, 1, 1, EMPTY_0 + [thought, thought, NOT_3_AT_0]))
            # ahead of the clash it is not let by
            self.assertIs(let_by(PUZZLE, FULL, ("suppose", 0, 1, 1, [thought] + EMPTY_0)), False, thought)

    def test_what_does_not_stand_is_passed_over(self):
        # 2 and 3 don't stand at cell 1 while 1 is supposed there
        for sign in (2, 3):
            for thought in (("clue", 0, 1, sign, []), ("", 0, 1, sign, []), ("step", 9, 1, sign, []),
                            ("step", -1, 1, sign, [-1]), ("only", 0, 1, sign, []), ("suppose", 0, 1, sign, []),
                            ("suppose", 9, 1, sign, [NEVER]), ("suppose", 0, 1, sign, [NEVER]),
                            ("suppose", 0, 1, sign, EMPTY_0)):
                for place in range(4):
                    book = EMPTY_0[:place] + [thought] + EMPTY_0[place:]
                    self.asked(None, FULL, ("suppose", 0, 1, 1, book))
                self.asked([], FULL, ("suppose", 0, 1, 1, [thought]))
        # the same sign twice: the second time it stands no more
        self.asked(None, FULL, ("suppose", 0, 1, 1, [EMPTY_0[0]] * 3 + EMPTY_0[1:]))

    def test_no_sign_or_cell_of_the_floor_is_not_passed_over(self):
        for thought in (("step", 1, 1, 0, []), ("step", 1, 1, 4, []), ("step", 1, 1, -1, []), ("step", 1, 3, 2, []),
                        ("step", 1, -1, 2, []), ("step", 1, -2, 2, []), ("step", 1, 10 ** 59, 2, []),
                        ("step", 1, 1, 10 ** 59, []), ("suppose", 0, 1, 4, EMPTY_0), ("suppose", 0, 3, 2, EMPTY_0)):
            for place in range(3):
                book = EMPTY_0[:place] + [thought] + EMPTY_0[place:]
                self.asked([place], FULL, ("suppose", 0, 1, 1, book))
            self.asked(None, FULL, ("suppose", 0, 1, 1, EMPTY_0 + [thought]))

    def test_the_sign_stands_alone_while_supposed(self):
        # it need not stand ahead, and all others are gone
        for mask in range(8):
            self.assertIs(let_by(PUZZLE, [7, mask, 7], SUPPOSING), True)
            self.assertIs(let_by(PUZZLE, [7, mask, 7], ("suppose", 0, 1, 2, EMPTY_0)), False)
            self.assertIs(let_by(PUZZLE, [7, mask, 7], ("suppose", 0, 1, 1, [("clue", 0, 1, 2, [])])), False)
        self.assertIs(let_by(PUZZLE, [7, 0, 7], ("suppose", 0, 1, 3, EMPTY_0)), False)

    def test_where_the_masks_clash_elsewhere_every_book_is_let_by(self):
        for book in ([NEVER], [("", 9, 9, 9, [])], EMPTY_0, [("suppose", 0, 0, 1, [])]):
            self.assertIs(let_by(PUZZLE, [7, 7, 0], ("suppose", 0, 1, 2, book)), True)
            self.assertIs(let_by(PUZZLE, [0, 7, 7], ("suppose", 0, 1, 2, book)), True)
            self.assertIs(let_by(PUZZLE, [7, 0, 7], ("suppose", 0, 1, 2, book)), False)

    def test_plain_thoughts_are_let_by_as_ever(self):
        for masks in itertools.product((0, 1, 3, 7), repeat=3):
            for thought in EMPTY_0 + [NOT_1_AT_0, NOT_1_AT_1, NEVER, ("pair", 0, 0, 1, [1, 2]), ("ways", 0, 2, 3, []),
                                      ("", 0, 0, 1, []), ("step", 1, 7, 1, []), ("step", 1, 0, 7, [])]:
                self.assertIs(let_by(PUZZLE, list(masks), thought), allowed(PUZZLE, list(masks), thought))
        self.assertIs(let_by(PUZZLE, FULL, NOT_3_AT_0), True)
        self.assertIs(let_by(PUZZLE, FULL, NEVER), False)


class NoThoughts(Asked):
    """What is no thought at all is not let by, and is passed over behind a clash alone."""

    THINGS = [None, 0, 1, True, "", "step", [], (), ["step", 1, 0, 3, []], ("step",), ("step", 1, 0, 3),
              ("step", 1, 0, 3, [], []), ("suppose", 0, 1, 1), ["suppose", 0, 1, 1, EMPTY_0],
              ("suppose", 0, 1, 1, EMPTY_0, [])]

    def test_in_a_book(self):
        for thing in self.THINGS:
            self.assertIs(let_by(PUZZLE, FULL, thing), False, thing)
            self.refused([0], PUZZLE, FULL, [thing])
            self.refused([1], PUZZLE, FULL, [NOT_3_AT_0, thing])
            self.refused([0], PUZZLE, [7, 7, 0], [thing])

    def test_inside_a_supposing(self):
        for thing in self.THINGS:
            for place in range(3):
                book = EMPTY_0[:place] + [thing] + EMPTY_0[place:]
                self.refused([0, place], PUZZLE, FULL, [("suppose", 0, 1, 1, book)])
            self.followed([7, 6, 7], PUZZLE, FULL, [("suppose", 0, 1, 1, EMPTY_0 + [thing])])

    def test_a_supposing_with_other_parts(self):
        for thought in (("suppose", False, 1, 1, EMPTY_0), ("suppose", None, 1, 1, EMPTY_0), ("suppose", 0, True, 1, EMPTY_0),
                        ("suppose", 0, 1, True, EMPTY_0), ("suppose", 0, 1, 1, tuple(EMPTY_0)), ("suppose", 0, 1, 1, None),
                        ("suppose", 0, 1, 1, "book"), ("suppose", 0, 1, 1, ())):
            self.assertIs(let_by(PUZZLE, FULL, thought), False, thought)
            self.refused([0], PUZZLE, FULL, [thought])
            self.refused([0, 1], PUZZLE, FULL, [("suppose", 0, 1, 1, EMPTY_0[:1] + [thought])])


class InOneAnother(Asked):
    MASKS = [7, 1, 7]

    def test_up_to_sixteen_books(self):
        for many in range(1, 16):
            thought = nested(many, [("step", 1, 0, 1, [])])
            self.assertIs(let_by(PUZZLE, self.MASKS, thought), True)
            self.followed([6, 1, 7], PUZZLE, self.MASKS, [thought])
            self.followed([4, 1, 7], PUZZLE, self.MASKS, [EMPTY_0[1], thought])
            self.assertIs(let_by(PUZZLE, FULL, thought), False)

    def test_the_place_of_the_innermost(self):
        for many in range(1, 16):
            for place, book in ((0, [NEVER]), (1, [("step", 1, 1, 2, []), NEVER]), (2, [EMPTY_0[1]] * 2 + [NEVER])):
                thought = nested(many, book)
                self.refused([0] * many + [place], PUZZLE, self.MASKS, [thought])
                self.refused([1] + [0] * (many - 1) + [place], PUZZLE, self.MASKS, [EMPTY_0[1], thought, NEVER])
                self.assertIs(let_by(PUZZLE, self.MASKS, thought), False)

    def test_the_innermost_supposing_itself(self):
        # without a clash, without thoughts, of another rule
        for many in range(2, 16):
            self.refused([0] * many, PUZZLE, self.MASKS, [nested(many, [EMPTY_0[1]])])
            self.refused([0] * many, PUZZLE, self.MASKS, [nested(many, [])])
            wrong = nested(many - 1, [("suppose", 1, 0, 1, [("step", 1, 0, 1, [])])])
            self.refused([0] * many, PUZZLE, self.MASKS, [wrong])

    def test_places_on_the_way(self):
        inner = ("suppose", 0, 0, 2, [("step", 1, 0, 2, [])])
        for bad, at in ((("suppose", 0, 0, 3, [NEVER, ("clue", 0, 2, 1, [])]), [2, 1]), (("suppose", 0, 0, 3, []), [2]),
                        (("suppose", 0, 0, 3, [NEVER]), [2]), (("suppose", 3, 0, 3, [NEVER]), [2]),
                        (("suppose", 0, 0, 3, [("suppose", 0, 2, 1, [("clue", 0, 2, 2, []), ("clue", 0, 0, 3, [])])]),
                         [2, 0, 1])):
            book = [("suppose", 0, 1, 1, [EMPTY_0[0], inner, bad])]
            self.refused([0] + at, PUZZLE, FULL, book)
        self.followed([7, 6, 7], PUZZLE, FULL,
                      [("suppose", 0, 1, 1, [EMPTY_0[0], inner, ("suppose", 0, 0, 3, [EMPTY_0[2]])])])

    def test_a_clash_inside_is_gone_behind_it(self):
        # the inner supposing strikes one sign alone; what it supposed does not stay
        inner = ("suppose", 0, 0, 1, [("step", 1, 0, 1, [])])
        self.refused([0], PUZZLE, FULL, [("suppose", 0, 1, 1, [inner])])
        self.refused([0], PUZZLE, FULL, [("suppose", 0, 1, 1, [inner, EMPTY_0[1]])])
        self.followed([7, 6, 7], PUZZLE, FULL, [("suppose", 0, 1, 1, [inner, EMPTY_0[1], EMPTY_0[2]])])


def at_by(puzzle, masks, book, gentle):
    """Point 13 told once more: (at, masks behind the book), at None where nothing is refused."""
    floor = puzzle.place()
    now = list(masks)
    for place, (kind, rule, cell, sign, more) in enumerate(book):
        on_floor = 0 <= cell < len(masks) and 1 <= sign <= floor[2]
        stands = on_floor and now[cell] & 2 ** (sign - 1)
        if gentle and (0 in now or on_floor and not stands):
            continue
        if 0 in now or not stands:
            return [place], None
        if kind == "suppose":
            if rule != 0 or not more:
                return [place], None
            at, end = at_by(puzzle, now[:cell] + [2 ** (sign - 1)] + now[cell + 1:], more, True)
            if at is not None:
                return [place] + at, None
            if 0 not in end:
                return [place], None
        elif not allowed(puzzle, now, (kind, rule, cell, sign, more)):
            return [place], None
        now[cell] ^= 2 ** (sign - 1)
    return None, now


class ByChance(unittest.TestCase):
    """Books by chance, with supposings in them, against the other telling; the seed is fixed."""

    PUZZLES = [
        Puzzle((1, 3, 3), ["unlike 0 1 2", "rising 0 1"], [0, 0, 0]),
        Puzzle((1, 3, 2), ["unlike 0 1", "unlike 1 2", "unlike 2 0"], [0, 0, 0]),
        Puzzle((2, 2, 3), ["unlike 0 1", "unlike 1 3", "unlike 3 2", "sum 6 0 3", "unlike 2 0"], [0, 0, 0, 1]),
        Puzzle((2, 2, 2), ["joined 1", "joined 2", "count 2 1 0 1 2 3", "unlike 0 1"], [0, 0, 0, 0]),
    ]

    def plain_thoughts(self, puzzle):
        floor = puzzle.place()
        signs = range(1, floor[2] + 1)
        some = [("clue", 0, cell, sign, []) for cell in range(floor[0] * floor[1]) for sign in signs]
        for number, rule in enumerate(puzzle.rules()):
            some += [("ways", number, cell, sign, []) for cell in rule.spots() for sign in signs]
        return some

    def thought_by(self, chance, puzzle, masks, deep):
        floor = puzzle.place()
        if chance.random() < 0.1:
            kind = chance.choice(["clue", "ways", "suppose", "no"])
            return (kind, chance.randrange(-1, 3), chance.randrange(-1, len(masks) + 1), chance.randrange(floor[2] + 2), [])
        some = chance.sample(self.plain_thoughts(puzzle), 12)
        some = sorted(some, key=lambda one: not masks[one[2]] & 2 ** (one[3] - 1)) if chance.random() < 0.9 else some
        good = [one for one in some if allowed(puzzle, masks, one)]
        if good and chance.random() < 0.7:
            return good[0]
        if deep > 0 and chance.random() < 0.6:
            cell = chance.randrange(len(masks))
            sign = chance.randrange(1, floor[2] + 1)
            rule = 0 if chance.random() < 0.9 else 1
            inner = masks[:cell] + [2 ** (sign - 1)] + masks[cell + 1:]
            return ("suppose", rule, cell, sign, self.book_by(chance, puzzle, inner, deep - 1))
        return some[0] if chance.random() < 0.2 or not good else good[0]

    def book_by(self, chance, puzzle, masks, deep):
        book = []
        now = list(masks)
        for turn in range(chance.choice([0, 2, 4, 6, 6, 6])):
            thought = self.thought_by(chance, puzzle, now, deep)
            book.append(thought)
            if 0 <= thought[2] < len(now) and 1 <= thought[3] <= puzzle.place()[2]:
                now[thought[2]] &= ~2 ** (thought[3] - 1)
        return book

    def cases(self, many):
        chance = random.Random(13)
        for turn in range(many):
            puzzle = chance.choice(self.PUZZLES)
            full = 2 ** puzzle.place()[2] - 1
            masks = [full if chance.random() < 0.8 else chance.randrange(full + 1) for cell in puzzle.clues()]
            yield chance, puzzle, masks, self.book_by(chance, puzzle, masks, 3)

    def test_followed_or_refused_alike(self):
        seen = {}
        for chance, puzzle, masks, book in self.cases(2000):
            at, end = at_by(puzzle, masks, book, False)
            seen[0 if at is None else len(at)] = seen.get(0 if at is None else len(at), 0) + 1
            if at is None:
                self.assertEqual(follow_from(puzzle, masks, book), end, (puzzle.lines(), masks, book))
            else:
                with self.assertRaises(BadThought) as caught:
                    follow_from(puzzle, masks, book)
                self.assertEqual(caught.exception.at, at, (puzzle.lines(), masks, book))
        for length in range(4):
            self.assertGreater(seen.get(length, 0), 30, seen)

    def test_supposings_let_by_strike_no_answer_and_stay_let_by_within(self):
        found = 0
        for chance, puzzle, masks, book in self.cases(2000):
            signs = range(1, puzzle.place()[2] + 1)
            for thought in book:
                if thought[0] == "suppose" and let_by(puzzle, masks, thought):
                    found += 1
                    for filling in itertools.product(signs, repeat=len(masks)):
                        if puzzle.meets(list(filling)) and all(m & 2 ** (s - 1) for m, s in zip(masks, filling)):
                            self.assertNotEqual(filling[thought[2]], thought[3], (puzzle.lines(), masks, thought))
                    for turn in range(10):
                        fewer = [mask & chance.randrange(8) if chance.random() < 0.4 else mask for mask in masks]
                        self.assertIs(let_by(puzzle, fewer, thought), True, (puzzle.lines(), masks, fewer, thought))
        self.assertGreater(found, 200)


class BearsOn(unittest.TestCase):
    def test_plain_thoughts_as_ever(self):
        for thought in EMPTY_0 + [NOT_1_AT_0, NOT_1_AT_1, NEVER, ("pair", 0, 0, 1, [1, 2]), ("ways", 0, 2, 3, [])]:
            self.assertEqual(bears_on(PUZZLE, thought), rests_on(PUZZLE, thought))
        self.assertEqual(bears_on(PUZZLE, ("ways", 0, 1, 3, [])), [0, 2])

    def test_without_thoughts_on_none(self):
        self.assertEqual(bears_on(PUZZLE, ("suppose", 0, 1, 1, [])), [])

    def test_where_its_thoughts_rest_and_strike_but_at_its_own_cell(self):
        self.assertEqual(bears_on(PUZZLE, SUPPOSING), [0])
        self.assertEqual(bears_on(PUZZLE, ("suppose", 0, 2, 1, EMPTY_0)), [0, 1])
        self.assertEqual(bears_on(PUZZLE, ("suppose", 0, 0, 1, [("only", 0, 2, 1, [0])])), [2])
        self.assertEqual(bears_on(PUZZLE, ("suppose", 0, 0, 1, [("only", 0, 2, 1, [1])])), [1, 2])
        self.assertEqual(bears_on(PUZZLE, ("suppose", 0, 0, 1, [("clue", 0, 0, 1, [])])), [])
        self.assertEqual(bears_on(PUZZLE, ("suppose", 0, 1, 1, [("clue", 0, 2, 1, []), ("clue", 0, 0, 1, [])])), [0, 2])

    def test_each_once_and_rising(self):
        puzzle = Puzzle((2, 3, 2), ["sum 9 5 0 4 1 2", "unlike 3 5"], [0] * 6)
        book = [("only", 1, 5, 1, [3]), ("only", 1, 3, 1, [5]), ("only", 1, 5, 2, [3]), ("clue", 0, 0, 1, [])]
        self.assertEqual(bears_on(puzzle, ("suppose", 0, 4, 1, book)), [0, 3, 5])
        self.assertEqual(bears_on(puzzle, ("suppose", 0, 3, 1, book)), [0, 5])
        self.assertEqual(bears_on(puzzle, ("suppose", 0, 3, 1, book + [("sum", 0, 5, 1, [])])), [0, 1, 2, 4, 5])

    def test_supposings_within(self):
        # the inner one strikes at its own cell, so the outer one bears on it
        puzzle = Puzzle((2, 3, 2), ["unlike 3 5", "unlike 0 1"], [0] * 6)
        inner = ("suppose", 0, 2, 1, [("only", 0, 5, 1, [3])])
        self.assertEqual(bears_on(puzzle, inner), [3, 5])
        self.assertEqual(bears_on(puzzle, ("suppose", 0, 4, 1, [inner])), [2, 3, 5])
        self.assertEqual(bears_on(puzzle, ("suppose", 0, 3, 1, [inner])), [2, 5])
        self.assertEqual(bears_on(puzzle, ("suppose", 0, 2, 1, [inner])), [3, 5])
        self.assertEqual(bears_on(puzzle, ("suppose", 0, 4, 1, [("suppose", 0, 0, 1, [])])), [0])
        self.assertEqual(bears_on(puzzle, ("suppose", 0, 4, 1, [("only", 1, 1, 1, [0]), inner])), [0, 1, 2, 3, 5])
        self.assertEqual(bears_on(PUZZLE, nested(15, [("only", 0, 2, 1, [1])])), [1, 2])

    def test_let_by_or_not(self):
        for masks in (FULL, [7, 1, 7], [0, 0, 0]):
            self.assertEqual(bears_on(PUZZLE, ("suppose", 0, 1, 2, EMPTY_0 + [("only", 0, 2, 1, [1])])), [0, 2])


class Kept(unittest.TestCase):
    def test_what_is_handed_in_stays(self):
        for masks in (FULL, [7, 1, 7]):
            for book in ([SUPPOSING], [NOT_3_AT_0, NOT_1_AT_1], [nested(15, [NEVER])], EMPTY_0, []):
                kept = copy.deepcopy((masks, book))
                try:
                    follow_from(PUZZLE, masks, book)
                    follow(PUZZLE, book)
                except BadThought:
                    pass
                for thought in book:
                    let_by(PUZZLE, masks, thought)
                    bears_on(PUZZLE, thought)
                self.assertEqual((masks, book), kept)
        self.assertEqual((PUZZLE.lines(), PUZZLE.clues()), (["unlike 0 1 2", "rising 0 1"], [0, 0, 0]))

    def test_what_is_told_is_the_askers_own(self):
        masks = [7, 7, 1]
        told = follow_from(PUZZLE, masks, [])
        told[0] = 0
        self.assertEqual(masks, [7, 7, 1])
        masks[1] = 0
        self.assertEqual(told, [0, 7, 1])
        told = follow(PUZZLE, [])
        told[0] = 0
        self.assertEqual(follow(PUZZLE, []), FULL)
        told = bears_on(PUZZLE, SUPPOSING)
        told.append(9)
        self.assertEqual(bears_on(PUZZLE, SUPPOSING), [0])

    def test_the_places_are_the_askers_own(self):
        places = []
        for turn in range(2):
            with self.assertRaises(BadThought) as caught:
                follow(PUZZLE, [("suppose", 0, 1, 1, [NEVER])])
            places.append(caught.exception.at)
            self.assertEqual(places[-1], [0, 0])
            places[-1].append(9)


if __name__ == "__main__":
    unittest.main()

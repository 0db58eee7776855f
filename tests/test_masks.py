import itertools
import unittest

from cluemaker.masks import (
    clashes, filling_by, full, has_only, is_settled, masks_by, signs_in, stands, struck, ways,
)

SIXTY_FIGURES = 10 ** 60 - 1
EVERY_MASK = range(64)
EVERY_SIGN = range(1, 7)
SIZES = [(high, wide) for high in range(1, 7) for wide in range(1, 7) if high * wide <= 16]


def signs_by_division(mask):
    """Another way to the same: halve the mask, and look whether something is left over."""
    found = []
    sign = 1
    while mask:
        mask, left = divmod(mask, 2)
        found += [sign] * left
        sign += 1
    return found


class Full(unittest.TestCase):
    def test_all_signs_at_each_cell(self):
        self.assertEqual(full((1, 1, 1)), [1])
        self.assertEqual(full((2, 2, 3)), [7, 7, 7, 7])
        self.assertEqual(full((4, 4, 6)), [63] * 16)

    def test_every_floor(self):
        for high, wide in SIZES:
            for signs in EVERY_SIGN:
                self.assertEqual(full((high, wide, signs)), [2 ** signs - 1] * (high * wide))


class OneMask(unittest.TestCase):
    def test_some(self):
        self.assertIs(stands(0b101, 1), True)
        self.assertIs(stands(0b101, 2), False)
        self.assertIs(stands(0b101, 3), True)
        self.assertIs(has_only(0b100, 3), True)
        self.assertIs(has_only(0b100, 1), False)
        self.assertIs(has_only(0b101, 3), False)
        self.assertEqual(signs_in(0b101101), [1, 3, 4, 6])

    def test_where_nothing_may_stand(self):
        self.assertEqual(signs_in(0), [])
        for sign in EVERY_SIGN:
            self.assertIs(stands(0, sign), False)
            self.assertIs(has_only(0, sign), True)

    def test_every_mask_and_sign(self):
        for mask in EVERY_MASK:
            signs = signs_by_division(mask)
            self.assertEqual(signs_in(mask), signs)
            for sign in EVERY_SIGN:
                self.assertIs(stands(mask, sign), sign in signs)
                self.assertIs(has_only(mask, sign), [other for other in signs if other != sign] == [])

    def test_signs_that_are_beyond_the_bounds(self):
        for beyond in (0, -1, -SIXTY_FIGURES, 7, 8, 64, 1000, SIXTY_FIGURES):
            for mask in (1, 32, 63):
                self.assertIs(stands(mask, beyond), False)
                self.assertIs(has_only(mask, beyond), False)
                self.assertEqual(struck([mask], 0, beyond), [mask])
            self.assertIs(has_only(0, beyond), True)
        self.assertEqual(signs_in(0b10000001), [1, 8])
        self.assertIs(stands(0b10000001, 8), True)


class Struck(unittest.TestCase):
    def test_some(self):
        self.assertEqual(struck([7, 7, 7], 1, 2), [7, 5, 7])
        self.assertEqual(struck([7, 5, 7], 0, 1), [6, 5, 7])
        self.assertEqual(struck([7, 5, 7], 2, 3), [7, 5, 3])
        self.assertEqual(struck([1], 0, 1), [0])

    def test_a_sign_that_did_not_stand(self):
        masks = [7, 5, 0]
        for cell, sign in ((1, 2), (2, 1), (2, 3), (0, 4)):
            told = struck(masks, cell, sign)
            self.assertEqual(told, masks)
            self.assertIsNot(told, masks)

    def test_every_mask_and_sign(self):
        for mask in EVERY_MASK:
            for sign in EVERY_SIGN:
                left = [other for other in signs_in(mask) if other != sign]
                told = struck([63, mask, 0], 1, sign)
                self.assertEqual([signs_in(one) for one in told], [[1, 2, 3, 4, 5, 6], left, []])

    def test_a_cell_that_is_none(self):
        self.assertEqual(struck([7, 7], 2, 1), [7, 7])
        self.assertEqual(struck([7, 7], -1, 1), [7, 7])

    def test_new_masks_each_time(self):
        masks = [7, 7]
        told = struck(masks, 0, 1)
        self.assertEqual(masks, [7, 7])
        told[1] = 0
        self.assertEqual(masks, [7, 7])
        self.assertEqual(struck(masks, 0, 1), [6, 7])
        masks[0] = 1
        self.assertEqual(told, [6, 0])


class AllMasks(unittest.TestCase):
    def test_clashes(self):
        self.assertIs(clashes([7, 7, 7]), False)
        self.assertIs(clashes([1, 2, 4]), False)
        self.assertIs(clashes([0, 2, 4]), True)
        self.assertIs(clashes([7, 7, 0]), True)
        self.assertIs(clashes([0]), True)

    def test_is_settled(self):
        self.assertIs(is_settled([1, 2, 32]), True)
        self.assertIs(is_settled([1, 3, 32]), False)
        self.assertIs(is_settled([1, 0, 32]), False)
        self.assertIs(is_settled([63]), False)
        self.assertIs(is_settled([4]), True)
        self.assertIs(is_settled([0]), False)

    def test_ways(self):
        self.assertEqual(ways([7, 7, 7]), 27)
        self.assertEqual(ways([1, 2, 4]), 1)
        self.assertEqual(ways([5, 7, 1, 63]), 36)
        self.assertEqual(ways([63, 0, 63]), 0)
        self.assertEqual(ways([63] * 16), 6 ** 16)

    def test_filling_by(self):
        self.assertEqual(filling_by([1, 2, 4, 8, 16, 32]), [1, 2, 3, 4, 5, 6])
        self.assertEqual(filling_by([1, 3, 0, 63]), [1, 0, 0, 0])

    def test_every_three_masks_of_three_signs(self):
        for masks in itertools.product(range(8), repeat=3):
            many = [len(signs_by_division(mask)) for mask in masks]
            self.assertIs(clashes(list(masks)), 0 in many)
            self.assertIs(is_settled(list(masks)), many == [1, 1, 1])
            self.assertEqual(ways(list(masks)), many[0] * many[1] * many[2])
            told = [signs_by_division(mask)[0] if one == 1 else 0 for mask, one in zip(masks, many)]
            self.assertEqual(filling_by(list(masks)), told)


class MasksBy(unittest.TestCase):
    def test_told_signs_alone_and_all_where_none_is(self):
        self.assertEqual(masks_by((2, 2, 3), [1, 2, 0, 3]), [1, 2, 7, 4])
        self.assertEqual(masks_by((1, 3, 6), [6, 0, 5]), [32, 63, 16])
        self.assertEqual(masks_by((1, 2, 1), [0, 1]), [1, 1])

    def test_every_filling_of_a_small_floor(self):
        for filling in itertools.product(range(4), repeat=3):
            masks = masks_by((1, 3, 3), list(filling))
            self.assertEqual([signs_in(mask) for mask in masks], [[sign] if sign else [1, 2, 3] for sign in filling])
            self.assertEqual(filling_by(masks), list(filling))

    def test_without_told_signs_it_is_full(self):
        for high, wide in SIZES:
            floor = (high, wide, 4)
            self.assertEqual(masks_by(floor, [0] * (high * wide)), full(floor))


class OwnAnswers(unittest.TestCase):
    def test_what_is_handed_in_stays(self):
        masks = [7, 0, 1, 5]
        filling = [1, 2, 0, 3]
        struck(masks, 0, 2)
        clashes(masks)
        is_settled(masks)
        ways(masks)
        filling_by(masks)
        masks_by((2, 2, 3), filling)
        self.assertEqual(masks, [7, 0, 1, 5])
        self.assertEqual(filling, [1, 2, 0, 3])

    def test_a_changed_answer_changes_no_later_one(self):
        floor = (1, 2, 3)
        for ask, wanted in (
            (lambda: full(floor), [7, 7]), (lambda: signs_in(5), [1, 3]), (lambda: filling_by([1, 7]), [1, 0]),
            (lambda: masks_by(floor, [2, 0]), [2, 7]),
        ):
            told = ask()
            self.assertIs(type(told), list)
            told[0] = 99
            told.append(99)
            self.assertEqual(ask(), wanted)


if __name__ == "__main__":
    unittest.main()

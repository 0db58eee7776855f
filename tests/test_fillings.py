import itertools
import unittest

from cluemaker.errors import NoFilling
from cluemaker.fillings import read_filling, show_filling

SIZES = [(high, wide) for high in range(1, 7) for wide in range(1, 7) if high * wide <= 16]
TWO_BY_TWO = (2, 2, 3)


class Shown(unittest.TestCase):
    def test_some(self):
        self.assertEqual(show_filling(TWO_BY_TWO, [1, 2, 0, 3]), "12/.3")
        self.assertEqual(show_filling((1, 3, 6), [6, 0, 5]), "6.5")
        self.assertEqual(show_filling((3, 1, 6), [6, 0, 5]), "6/./5")
        self.assertEqual(show_filling((1, 1, 1), [0]), ".")
        self.assertEqual(show_filling((1, 1, 1), [1]), "1")
        self.assertEqual(show_filling((2, 3, 4), [1, 2, 3, 4, 0, 0]), "123/4..")
        self.assertEqual(show_filling((4, 4, 6), [6] * 16), "6666/6666/6666/6666")


class Read(unittest.TestCase):
    def test_some(self):
        self.assertEqual(read_filling(TWO_BY_TWO, "12/.3"), [1, 2, 0, 3])
        self.assertEqual(read_filling((1, 3, 6), "6.5"), [6, 0, 5])
        self.assertEqual(read_filling((3, 1, 6), "6/./5"), [6, 0, 5])
        self.assertEqual(read_filling((1, 1, 1), "."), [0])
        self.assertEqual(read_filling((1, 1, 1), "1"), [1])
        self.assertEqual(read_filling((6, 2, 6), "../../../../../.6"), [0] * 11 + [6])

    def test_what_is_shown_is_read_again(self):
        for high, wide in SIZES:
            for signs in range(1, 7):
                floor = (high, wide, signs)
                many = high * wide
                turning = [cell % (signs + 1) for cell in range(many)]
                for filling in ([0] * many, [signs] * many, turning, turning[::-1]):
                    self.assertEqual(read_filling(floor, show_filling(floor, filling)), filling)

    def test_every_text_of_a_small_floor(self):
        for figures in itertools.product(".123", repeat=4):
            text = "".join(figures[:2]) + "/" + "".join(figures[2:])
            filling = read_filling(TWO_BY_TWO, text)
            self.assertEqual(filling, [".123".index(figure) for figure in figures])
            self.assertEqual(show_filling(TWO_BY_TWO, filling), text)


class Refused(unittest.TestCase):
    def refuse(self, floor, text):
        with self.assertRaises(NoFilling, msg=text):
            read_filling(floor, text)

    def test_rows_too_few_or_too_many(self):
        for text in ("12", "12/.3/12", "12/.3/..", "12.3", "12/", "/12"):
            self.refuse(TWO_BY_TWO, text)
        self.refuse((1, 2, 3), "1/2")
        self.refuse((2, 1, 3), "12")

    def test_a_row_too_short_or_too_long(self):
        for text in ("1/.3", "12/.", "12/.33", "121/.3", "123/4", "1/2.3", "/12.3", "12.3/"):
            self.refuse(TWO_BY_TWO, text)

    def test_a_bar_at_an_end_or_twice(self):
        for text in ("12/.3/", "/12/.3", "12//.3", "/", "//"):
            self.refuse(TWO_BY_TWO, text)
        self.refuse((1, 1, 1), "1/")
        self.refuse((1, 1, 1), "/1")

    def test_nought_is_no_sign(self):
        self.refuse(TWO_BY_TWO, "12/03")
        self.refuse((1, 1, 6), "0")

    def test_signs_beyond_the_floors(self):
        for signs in range(1, 7):
            floor = (1, 2, signs)
            self.assertEqual(read_filling(floor, f".{signs}"), [0, signs])
            for beyond in range(signs + 1, 10):
                self.refuse(floor, f".{beyond}")

    def test_letters_blanks_line_ends_and_other_signs(self):
        for sign in "aAlO \n\t\r,-+_|\\;:*\u00b2\u0661\uff11\u2460\u3002\0":
            self.refuse(TWO_BY_TWO, f"1{sign}/.3")
            self.refuse(TWO_BY_TWO, f"12/.3{sign}")
            self.refuse(TWO_BY_TWO, f"{sign}12/.3")
            self.refuse(TWO_BY_TWO, f"12{sign}.3")
            self.refuse((1, 1, 6), sign)

    def test_text_without_signs(self):
        self.refuse(TWO_BY_TWO, "")
        self.refuse((1, 1, 1), "")

    def test_long_texts(self):
        self.refuse(TWO_BY_TWO, "1" * 4000)
        self.refuse(TWO_BY_TWO, "/" * 4000)
        self.refuse((1, 1, 1), "12/.3" * 800)

    def test_what_is_no_text(self):
        for thing in (None, 0, 1, 12, 10 ** 60 - 1, True, [], [1, 2, 0, 3], ["12", ".3"], ("12", ".3"), {}, b"12/.3"):
            self.refuse(TWO_BY_TWO, thing)
        for thing in (None, 1, [1], ["1"], {"1": 1}):
            self.refuse((1, 1, 1), thing)


class OwnAnswers(unittest.TestCase):
    def test_what_is_handed_in_stays(self):
        filling = [1, 2, 0, 3]
        show_filling(TWO_BY_TWO, filling)
        self.assertEqual(filling, [1, 2, 0, 3])

    def test_a_changed_answer_changes_no_later_one(self):
        first = read_filling(TWO_BY_TWO, "12/.3")
        first[0] = 3
        first.append(1)
        self.assertEqual(read_filling(TWO_BY_TWO, "12/.3"), [1, 2, 0, 3])

    def test_a_text_stays_when_the_filling_changes(self):
        filling = [1, 2, 0, 3]
        text = show_filling(TWO_BY_TWO, filling)
        filling[2] = 1
        self.assertEqual(text, "12/.3")
        self.assertEqual(show_filling(TWO_BY_TWO, filling), "12/13")


if __name__ == "__main__":
    unittest.main()

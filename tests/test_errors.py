import unittest

from cluemaker import errors
from cluemaker.errors import (
    BadThought, ClueError, NoFilling, NoFloor, NoMove, NoName, NoPuzzle, NoRow, NoRule, NoText, NotOne, TooMany,
)

PLAIN = [NoFloor, NoFilling, NoRule, NoPuzzle, TooMany, NotOne, NoMove, NoText, NoName, NoRow]
ALL = PLAIN + [BadThought]


class Classes(unittest.TestCase):
    def test_clue_error_is_a_value_error(self):
        self.assertEqual(ClueError.__bases__, (ValueError,))

    def test_each_stands_straight_under_clue_error(self):
        for one in ALL:
            self.assertEqual(one.__bases__, (ClueError,), one)

    def test_none_stands_under_another(self):
        for one in ALL:
            for other in ALL:
                self.assertEqual(issubclass(one, other), one is other, (one, other))

    def test_they_are_called_by_their_names(self):
        names = ["NoFloor", "NoFilling", "NoRule", "NoPuzzle", "TooMany", "NotOne", "NoMove", "NoText", "NoName",
                 "NoRow", "BadThought"]
        self.assertEqual([one.__name__ for one in ALL], names)
        for name in names + ["ClueError"]:
            self.assertEqual(getattr(errors, name).__name__, name)

    def test_each_can_be_taken_as_clue_error(self):
        for one in PLAIN:
            with self.assertRaises(ClueError) as taken:
                raise one("words")
            self.assertIs(type(taken.exception), one)


class At(unittest.TestCase):
    def test_bad_thought_has_its_at(self):
        for at in ([0], [3, 0, 2], []):
            with self.assertRaises(ClueError) as taken:
                raise BadThought(at)
            self.assertIs(type(taken.exception), BadThought)
            self.assertEqual(taken.exception.at, at)

    def test_at_is_no_other_objects_list(self):
        at = [1, 2]
        error = BadThought(at)
        at.append(3)
        self.assertEqual(error.at, [1, 2])
        error.at.append(4)
        self.assertEqual(at, [1, 2, 3])


if __name__ == "__main__":
    unittest.main()

import unittest

from frameshare import errors
from frameshare.errors import BadRow, BadWord, FrameError, Given, NoProgram, NotGiven, NoThing, TooMany

MADE_WITH_WORDS = (BadWord, TooMany, NoThing, Given, NotGiven, NoProgram)
REFUSALS = (BadRow,) + MADE_WITH_WORDS


class ErrorsTest(unittest.TestCase):
    def test_frame_error_stands_straight_under_value_error(self):
        self.assertEqual(FrameError.__bases__, (ValueError,))

    def test_each_refusal_stands_straight_under_frame_error(self):
        for refusal in REFUSALS:
            self.assertEqual(refusal.__bases__, (FrameError,), refusal)

    def test_each_refusal_is_caught_as_its_own_and_as_those_above(self):
        for refusal in MADE_WITH_WORDS:
            for above in (refusal, FrameError, ValueError):
                with self.assertRaises(above):
                    raise refusal("some words")
        for above in (BadRow, FrameError, ValueError):
            with self.assertRaises(above):
                raise BadRow(3)

    def test_no_refusal_is_one_of_the_others(self):
        for refusal in REFUSALS:
            made = refusal(1) if refusal is BadRow else refusal("some words")
            for other in REFUSALS:
                self.assertEqual(isinstance(made, other), other is refusal, (refusal, other))

    def test_refusals_are_seven_classes_by_their_names(self):
        names = ("BadRow", "BadWord", "TooMany", "NoThing", "Given", "NotGiven", "NoProgram")
        self.assertEqual(len({getattr(errors, name) for name in names}), 7)
        for name in names:
            self.assertEqual(getattr(errors, name).__name__, name)

    def test_words_are_kept(self):
        for refusal in MADE_WITH_WORDS + (FrameError,):
            self.assertEqual(str(refusal("some words")), "some words")

    def test_bad_row_has_its_row(self):
        for row in (0, 1, 7, 400, 10 ** 12):
            self.assertEqual(BadRow(row).row, row)

    def test_each_bad_row_has_its_own_row(self):
        first, second = BadRow(1), BadRow(2)
        self.assertEqual((first.row, second.row), (1, 2))
        with self.assertRaises(BadRow) as caught:
            raise BadRow(5)
        self.assertEqual(caught.exception.row, 5)

    def test_bad_row_is_made_with_its_row(self):
        with self.assertRaises(TypeError):
            BadRow()


if __name__ == "__main__":
    unittest.main()

import copy
import pickle
import unittest

from barwright import errors
from barwright.errors import (
    BadPage, BadRoll, BadRow, BadStretch, BadTune, BadWidth, OutOfPlace, OutOfReach, TooFine, TuneError,
)

REFUSALS = [BadRow, BadTune, OutOfReach, TooFine, BadStretch, BadPage, BadRoll, OutOfPlace, BadWidth]
WITH_TEXT = [BadTune, OutOfReach, BadStretch, BadRoll, OutOfPlace, BadWidth]


class TestErrors(unittest.TestCase):
    def test_tune_error_stands_under_value_error(self):
        self.assertEqual(TuneError.__bases__, (ValueError,))

    def test_each_refusal_stands_straight_under_tune_error(self):
        for refusal in REFUSALS:
            self.assertEqual(refusal.__bases__, (TuneError,), refusal)

    def test_none_stands_under_another_one(self):
        for one in REFUSALS:
            for other in REFUSALS:
                self.assertEqual(issubclass(one, other), one is other, (one, other))

    def test_there_are_no_others(self):
        classes = [thing for thing in vars(errors).values() if isinstance(thing, type)]
        self.assertEqual(set(classes), {TuneError, *REFUSALS})

    def test_each_class_is_called_as_the_interface_says(self):
        self.assertEqual(
            [refusal.__name__ for refusal in REFUSALS],
            "BadRow BadTune OutOfReach TooFine BadStretch BadPage BadRoll OutOfPlace BadWidth".split())

    def test_row(self):
        for refusal in (BadRow, BadPage):
            for row in (1, 2, 700):
                self.assertEqual(refusal(row).row, row)

    def test_bar_and_voice(self):
        error = TooFine(3, 1)
        self.assertEqual((error.bar, error.voice), (3, 1))
        error = TooFine(1, 2)
        self.assertEqual((error.bar, error.voice), (1, 2))

    def test_others_are_made_with_a_text(self):
        for refusal in WITH_TEXT:
            self.assertEqual(str(refusal("why it is")), "why it is")

    def test_each_is_taken_as_tune_error_and_as_value_error(self):
        made = [refusal("why") for refusal in WITH_TEXT] + [BadRow(1), BadPage(1), TooFine(1, 1)]
        for error in made:
            for taken in (TuneError, ValueError, error.__class__):
                with self.assertRaises(taken):
                    raise error

    def test_copies_keep_the_fields(self):
        for again in (copy.copy, copy.deepcopy, lambda error: pickle.loads(pickle.dumps(error))):
            self.assertEqual(again(BadRow(5)).row, 5)
            self.assertEqual(again(BadPage(6)).row, 6)
            fine = again(TooFine(7, 2))
            self.assertEqual((fine.bar, fine.voice), (7, 2))


if __name__ == "__main__":
    unittest.main()

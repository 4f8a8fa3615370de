import unittest

from barwright.errors import BadTune, OutOfReach, TuneError
from barwright.keys import aside, is_key, key_lean, key_of, moved_key
from barwright.pitches import moved_pitch
from oddments import no_numbers, no_texts

LETTERS = "cdefgab"
KEYS = list(range(-7, 8))
PITCHES = [(step, lean, octave) for octave in range(9) for step in range(7) for lean in range(-2, 3)]
# The order in which sharps and flats are put in front of a staff.
SHARPS = "fcgdaeb"
FLATS = "beadgcf"


def lean_by_rows(key, step):
    if LETTERS[step] in SHARPS[:max(key, 0)]:
        return 1
    if LETTERS[step] in FLATS[:max(-key, 0)]:
        return -1
    return 0


def moved_or_none(move, thing, steps, halves):
    try:
        return move(thing, steps, halves)
    except OutOfReach:
        return None


class TestIsKey(unittest.TestCase):
    def test_all_and_just_beyond(self):
        for number in range(-30, 31):
            self.assertIs(is_key(number), -7 <= number <= 7, number)
        for number in (10 ** 60, -10 ** 60, 10 ** 3900):
            self.assertIs(is_key(number), False)

    def test_truths_are_none(self):
        self.assertIs(is_key(True), False)
        self.assertIs(is_key(False), False)

    def test_nothing_else_is(self):
        for thing in no_numbers() + ["", "0", "1", "-7", "c", (), (1,), (0, 0, 4)]:
            self.assertIs(is_key(thing), False)

    def test_nothing_handed_in_is_changed(self):
        thing = [1, [2]]
        is_key(thing)
        self.assertEqual(thing, [1, [2]])


class TestKeyOf(unittest.TestCase):
    def test_all_and_just_beyond(self):
        for number in range(-30, 31):
            self.assertEqual(key_of(str(number)), number if -7 <= number <= 7 else None)

    def test_words_of_no_number(self):
        for word in ("", "-", "-0", "+1", "00", "01", "-01", "1.0", " 1", "1 ", "1\n", "c", "k1", "--1", "9999"):
            self.assertIsNone(key_of(word), word)

    def test_what_is_no_text(self):
        for thing in no_texts():
            self.assertIsNone(key_of(thing))


class TestLean(unittest.TestCase):
    def test_all_keys_and_steps_by_the_rows(self):
        for key in KEYS:
            for step in range(7):
                self.assertEqual(key_lean(key, step), lean_by_rows(key, step), (key, step))

    def test_some_by_hand(self):
        for key, step, lean in ((0, 0, 0), (0, 6, 0), (1, 3, 1), (1, 0, 0), (-1, 6, -1), (-1, 2, 0), (2, 0, 1),
                                (-3, 5, -1), (-3, 1, 0), (7, 6, 1), (6, 6, 0), (-7, 3, -1), (-6, 3, 0)):
            self.assertEqual(key_lean(key, step), lean, (key, step))

    def test_as_many_lean_as_the_key_tells(self):
        for key in KEYS:
            self.assertEqual(sum(key_lean(key, step) for step in range(7)), key)


class TestAside(unittest.TestCase):
    def test_all_pitches_by_all_keys(self):
        for key in KEYS:
            for pitch in PITCHES:
                self.assertEqual(aside(key, pitch), pitch[1] - lean_by_rows(key, pitch[0]), (key, pitch))

    def test_some_by_hand(self):
        for key, pitch, far in ((0, (0, 0, 4), 0), (0, (0, 1, 4), 1), (1, (3, 1, 4), 0), (1, (3, 0, 4), -1),
                                (-1, (6, 0, 4), 1), (-7, (6, 2, 0), 3), (7, (3, -2, 8), -3)):
            self.assertEqual(aside(key, pitch), far, (key, pitch))

    def test_moved_by_one_interval_it_stays(self):
        many = 0
        for key in KEYS:
            for pitch in PITCHES[::3]:
                for steps in range(-8, 9):
                    for halves in range(2 * steps - 4, 2 * steps + 5):
                        new_key = moved_or_none(moved_key, key, steps, halves)
                        if new_key is None:
                            continue
                        new_pitch = moved_or_none(moved_pitch, pitch, steps, halves)
                        if new_pitch is not None:
                            many += 1
                            self.assertEqual(aside(new_key, new_pitch), aside(key, pitch))
        self.assertGreater(many, 10000)


class TestMoved(unittest.TestCase):
    def test_all_by_small_intervals(self):
        reached = set()
        for key in KEYS:
            for steps in range(-16, 17):
                for halves in range(-30, 31):
                    wanted = key + 7 * halves - 12 * steps
                    expected = wanted if -7 <= wanted <= 7 else None
                    self.assertEqual(moved_or_none(moved_key, key, steps, halves), expected, (key, steps, halves))
                    reached.add(expected)
        self.assertEqual(reached, set(KEYS) | {None})

    def test_there_and_back(self):
        for key in KEYS:
            for steps in range(-16, 17):
                for halves in range(-30, 31):
                    moved = moved_or_none(moved_key, key, steps, halves)
                    if moved is not None:
                        self.assertEqual(moved_key(moved, -steps, -halves), key)

    def test_some_by_hand(self):
        for key, steps, halves, moved in ((0, 4, 7, 1), (0, 1, 2, 2), (0, 2, 3, -3), (0, 3, 5, -1), (0, 7, 12, 0),
                                          (0, 0, 1, 7), (0, 0, -1, -7), (0, 1, 1, -5), (5, 1, 1, 0), (-3, -2, -3, 0)):
            self.assertEqual(moved_key(key, steps, halves), moved)

    def test_the_last_ones_and_just_beyond(self):
        # A fifth more (4 steps, 7 halves) is one sharp more.
        self.assertEqual(moved_key(6, 4, 7), 7)
        self.assertEqual(moved_key(-6, -4, -7), -7)
        self.assertEqual(moved_key(7, 0, 0), 7)
        self.assertEqual(moved_key(-7, 0, 0), -7)
        self.assertEqual(moved_key(-7, 0, 2), 7)
        for key, steps, halves in ((7, 4, 7), (-7, -4, -7), (1, 0, 1), (-1, 0, -1), (0, 1, 0), (0, -1, 0)):
            with self.assertRaises(OutOfReach):
                moved_key(key, steps, halves)

    def test_by_great_numbers(self):
        great = 10 ** 3900
        self.assertEqual(moved_key(3, 7 * great, 12 * great), 3)
        self.assertEqual(moved_key(3, -7 * great, -12 * great), 3)
        for steps, halves in ((great, 0), (0, great), (-great, great)):
            with self.assertRaises(OutOfReach):
                moved_key(3, steps, halves)

    def test_nothing_is_refused_but_where_it_ends_beyond(self):
        self.assertEqual(moved_key(8, -4, -7), 7)
        self.assertEqual(moved_key(-9, 0, 1), -2)

    def test_what_refuses_is_a_tune_error(self):
        with self.assertRaises(TuneError) as caught:
            moved_key(0, 0, 2)
        self.assertIs(caught.exception.__class__, OutOfReach)
        self.assertNotIsInstance(caught.exception, BadTune)


if __name__ == "__main__":
    unittest.main()

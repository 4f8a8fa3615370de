import unittest

from barwright.errors import BadTune, OutOfReach, TuneError
from barwright.pitches import fifths, height, is_pitch, line, moved_pitch, pitch_of, pitch_text
from oddments import Unfriendly, no_numbers, no_texts

LETTERS = "cdefgab"
LEANS = {-2: "--", -1: "-", 0: "", 1: "+", 2: "++"}
PITCHES = [(step, lean, octave) for octave in range(9) for step in range(7) for lean in range(-2, 3)]


def places_by_walking():
    """Line and height of each pitch, found by walking over the keys of an instrument one by one."""
    places = {}
    lines = -1
    for key, name in enumerate("c.d.ef.g.a.b" * 9):
        if name == ".":
            continue
        lines += 1
        for lean in LEANS:
            places[(LETTERS.index(name), lean, key // 12)] = (lines, key + lean)
    return places


def fifths_by_walking():
    """Where each (step, lean) stands, found by walking up the row of fifths from f-- on."""
    row = [(LETTERS.index(name), lean) for lean in LEANS for name in "fcgdaeb"]
    nought = row.index((0, 0))
    return {name: place - nought for place, name in enumerate(row)}


PLACES = places_by_walking()
BY_PLACE = {place: pitch for pitch, place in PLACES.items()}


class TestIsPitch(unittest.TestCase):
    def test_all_and_just_beyond(self):
        for step in range(-3, 10):
            for lean in range(-5, 6):
                for octave in range(-3, 12):
                    good = 0 <= step <= 6 and -2 <= lean <= 2 and 0 <= octave <= 8
                    self.assertIs(is_pitch((step, lean, octave)), good, (step, lean, octave))

    def test_one_part_more_or_fewer(self):
        for thing in ((), (0,), (0, 0), (0, 0, 4, 0), (0, 0, 4, 4, 4)):
            self.assertIs(is_pitch(thing), False, thing)

    def test_other_things_in_a_place(self):
        for thing in no_numbers() + ["", "0", "c", (), (0,), 10 ** 50, -10 ** 50]:
            self.assertIs(is_pitch((thing, 0, 4)), False)
            self.assertIs(is_pitch((0, thing, 4)), False)
            self.assertIs(is_pitch((0, 0, thing)), False)

    def test_truths_in_a_place(self):
        for truth in (True, False):
            for thing in ((truth, 0, 4), (0, truth, 4), (0, 0, truth), (truth, truth, truth)):
                self.assertIs(is_pitch(thing), False, thing)

    def test_nothing_else_is(self):
        for thing in no_numbers() + ["c4", "", "abc", 4, 0, [2, -1, 4], [0, 0, 0], Unfriendly()]:
            self.assertIs(is_pitch(thing), False)


class TestWords(unittest.TestCase):
    def test_named_one(self):
        self.assertEqual(pitch_of("e-4"), (2, -1, 4))
        self.assertEqual(pitch_text((2, -1, 4)), "e-4")

    def test_all_written_and_read_back(self):
        self.assertEqual(len(PITCHES), 315)
        words = set()
        for step, lean, octave in PITCHES:
            word = LETTERS[step] + LEANS[lean] + "012345678"[octave]
            self.assertEqual(pitch_text((step, lean, octave)), word)
            self.assertEqual(pitch_of(word), (step, lean, octave))
            self.assertIs(is_pitch(pitch_of(word)), True)
            words.add(word)
        self.assertEqual(len(words), 315)

    def test_words_that_are_none(self):
        words = [
            "", "c", "4", "c9", "c+9", "c10", "c44", "c04", "c-10", "c+", "c-", "c++", "c--", "c+++4", "c---4",
            "c+-4", "c-+4", "c++-4", "h4", "H4", "C4", "E-4", "i4", "r4", "c=4", "c#4", "cb4", "cc4", "cd4", "4c",
            "+c4", "-4", "+4", "--4", "44", "c4+", "c4-", "c+4+", " c4", "c4 ", "c 4", "c- 4", "c4\n", "\nc4",
            "c\n4", "c4,e4", "c4/8", "xc4", "c4x", "c_4", "c.4", "-", "+", " ", "c" * 20000, "c" + "+" * 20000 + "4",
        ]
        for word in words:
            self.assertIsNone(pitch_of(word), repr(word[:20]))

    def test_each_short_word(self):
        good = {LETTERS[step] + LEANS[lean] + str(octave) for step, lean, octave in PITCHES}
        signs = [chr(code) for code in range(32, 127) if chr(code) != chr(37)] + ["\n"]
        for first in signs:
            for last in signs:
                for word in (first + last, first + "-" + last, "c" + first + last, "a" + first + last + "3"):
                    self.assertEqual(pitch_of(word) is not None, word in good, repr(word))

    def test_of_anything(self):
        for thing in no_texts() + [(2, -1, 4), ["e", "-", "4"], ("e", "-", "4")]:
            self.assertIsNone(pitch_of(thing))


class TestPlaces(unittest.TestCase):
    def test_line_and_height_of_all(self):
        self.assertEqual(sorted(PLACES), sorted(PITCHES))
        for pitch in PITCHES:
            self.assertEqual((line(pitch), height(pitch)), PLACES[pitch], pitch)

    def test_fifths_of_all(self):
        walked = fifths_by_walking()
        for pitch in PITCHES:
            self.assertEqual(fifths(pitch), walked[pitch[:2]], pitch)

    def test_some_by_hand(self):
        for word, places in (("c0", (0, 0, 0)), ("a4", (33, 57, 3)), ("e-4", (30, 51, -3)), ("f+3", (24, 42, 6)),
                             ("b++8", (62, 109, 19)), ("c--0", (0, -2, -14)), ("f--0", (3, 3, -15))):
            pitch = pitch_of(word)
            self.assertEqual((line(pitch), height(pitch), fifths(pitch)), places, word)


class TestMoved(unittest.TestCase):
    def expect(self, pitch, steps, halves):
        lines, high = PLACES[pitch]
        expected = BY_PLACE.get((lines + steps, high + halves))
        try:
            told = moved_pitch(pitch, steps, halves)
        except OutOfReach:
            told = None
        self.assertEqual(told, expected, (pitch, steps, halves))

    def test_all_by_small_intervals(self):
        for pitch in PITCHES:
            for steps in range(-9, 10):
                for halves in range(-17, 18):
                    self.expect(pitch, steps, halves)

    def test_to_each_place_there_is(self):
        for pitch in PITCHES[::7]:
            lines, high = PLACES[pitch]
            for other in PITCHES:
                steps = PLACES[other][0] - lines
                halves = PLACES[other][1] - high
                self.assertEqual(moved_pitch(pitch, steps, halves), other)
                self.assertEqual(moved_pitch(other, -steps, -halves), pitch)
                self.assertEqual(fifths(other), fifths(pitch) + 7 * halves - 12 * steps)

    def test_by_two_intervals_as_by_their_sum(self):
        intervals = [(steps, halves) for steps in range(-3, 4) for halves in range(-5, 6)]
        many = 0
        for pitch in PITCHES[::11]:
            for one in intervals:
                for other in intervals:
                    try:
                        twice = moved_pitch(moved_pitch(pitch, *one), *other)
                    except OutOfReach:
                        continue
                    many += 1
                    self.assertEqual(moved_pitch(pitch, one[0] + other[0], one[1] + other[1]), twice)
        self.assertGreater(many, 1000)

    def test_by_nothing(self):
        for pitch in PITCHES:
            self.assertEqual(moved_pitch(pitch, 0, 0), pitch)

    def test_some_by_hand(self):
        for word, steps, halves, moved in (
                ("c4", 2, 4, "e4"), ("c4", 2, 3, "e-4"), ("b4", 1, 1, "c5"), ("c4", -1, -1, "b3"),
                ("c4", 7, 12, "c5"), ("f+4", 1, 0, "g-4"), ("e4", -1, 0, "d++4"), ("b4", 1, 0, "c-5"),
                ("c--0", 0, 4, "c++0"), ("b8", -62, -107, "c0")):
            self.assertEqual(moved_pitch(pitch_of(word), steps, halves), pitch_of(moved))

    def test_the_last_ones_and_just_beyond(self):
        for word, steps, halves in (
                ("c4", 0, 2), ("c4", 0, -2), ("a8", 1, 2), ("b8", 0, 2), ("d0", -1, -2), ("c0", 0, -2),
                ("c4", 7, 14), ("c4", -7, -14), ("c1", -7, -12), ("c7", 7, 12), ("b7", 7, 12)):
            self.assertIs(is_pitch(moved_pitch(pitch_of(word), steps, halves)), True, (word, steps, halves))
        for word, steps, halves in (
                ("c4", 0, 3), ("c4", 0, -3), ("c++4", 0, 1), ("c--4", 0, -1), ("b8", 1, 1), ("b8", 0, 3),
                ("c0", -1, -1), ("c0", 0, -3), ("c8", 7, 12), ("c0", -7, -12), ("b8", 1, -1), ("c0", -1, 1),
                ("c4", 35, 60), ("c4", -29, -49), ("c4", 7, 0), ("c4", 0, 12)):
            with self.assertRaises(OutOfReach):
                moved_pitch(pitch_of(word), steps, halves)

    def test_by_great_numbers(self):
        great = 10 ** 3900
        for steps, halves in ((great, 0), (-great, 0), (0, great), (0, -great), (7 * great, 12 * great),
                              (-7 * great, -12 * great)):
            with self.assertRaises(OutOfReach):
                moved_pitch((0, 0, 4), steps, halves)

    def test_what_refuses_is_a_tune_error(self):
        with self.assertRaises(TuneError) as caught:
            moved_pitch((0, 0, 8), 7, 12)
        self.assertIs(caught.exception.__class__, OutOfReach)
        self.assertNotIsInstance(caught.exception, BadTune)

    def test_nothing_is_refused_but_where_it_ends_beyond(self):
        self.assertEqual(moved_pitch((0, 0, 9), -7, -12), (0, 0, 8))
        self.assertEqual(moved_pitch((0, 3, 4), 0, -1), (0, 2, 4))


class TestHandedIn(unittest.TestCase):
    def test_nothing_handed_in_is_changed(self):
        for thing in ([2, -1, 4], ["e-4"], {"e": 4}):
            before = repr(thing)
            is_pitch(thing)
            is_pitch((thing, 0, 4))
            pitch_of(thing)
            self.assertEqual(repr(thing), before)


if __name__ == "__main__":
    unittest.main()

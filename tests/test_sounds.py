import unittest

from barwright.errors import BadTune, OutOfReach, TuneError
from barwright.tunes import Rest, Sound, Tones, sound_of
from oddments import Unfriendly, no_numbers
from samples import C4, C5, D4, E4, G4, tones


class SoundCase(unittest.TestCase):
    def good(self, told):
        sound = sound_of(told)
        self.assertIsInstance(sound, Sound)
        self.assertEqual(sound.told(), told)
        return sound

    def refused(self, thing):
        with self.assertRaises(TuneError) as caught:
            sound_of(thing)
        self.assertIs(caught.exception.__class__, BadTune)


class TestMade(unittest.TestCase):
    def test_kinds(self):
        for sound in (Rest(24), Tones([C4], 24, "", False, False)):
            self.assertIsInstance(sound, Sound)
        self.assertNotIsInstance(Rest(24), Tones)
        self.assertNotIsInstance(Tones([C4], 24, "", False, False), Rest)

    def test_rest(self):
        for length in (2, 24, 4608):
            rest = Rest(length)
            self.assertEqual(rest.length, length)
            self.assertEqual(rest.told(), ("rest", length))
            self.assertIsInstance(rest.told(), tuple)

    def test_tones(self):
        for pitches, length, word, opens, closes in (
                ([C4], 2, "", False, False), ([C4, E4, G4, C5], 384, "hal-le", True, False),
                ([C4, D4], 24, "la", False, True), ([G4], 36, "", True, True)):
            made = Tones(pitches, length, word, opens, closes)
            self.assertEqual(made.pitches, pitches)
            self.assertEqual(made.length, length)
            self.assertEqual(made.word, word)
            self.assertIs(made.opens, opens)
            self.assertIs(made.closes, closes)
            told = made.told()
            self.assertEqual(told, ("tones", pitches, length, word, opens, closes))
            self.assertIsInstance(told, tuple)
            self.assertIsInstance(told[1], list)

    def test_changed_lists_change_no_sound(self):
        pitches = [C4, E4]
        made = Tones(pitches, 24, "la", False, False)
        pitches.append(G4)
        pitches[0] = D4
        self.assertEqual(made.told(), tones([C4, E4], word="la"))
        told = made.told()
        told[1].clear()
        self.assertEqual(made.told(), tones([C4, E4], word="la"))
        self.assertEqual(made.pitches, [C4, E4])


class TestRests(SoundCase):
    def test_lengths(self):
        for length in range(-3, 4700):
            if 2 <= length <= 4608:
                self.assertIsInstance(self.good(("rest", length)), Rest)
            else:
                self.refused(("rest", length))
        for length in (10 ** 50, -10 ** 50, 4608.0, "24", None, True, [24], (24,)):
            self.refused(("rest", length))

    def test_one_part_more_or_fewer(self):
        for thing in (("rest",), ("rest", 24, 24), ("rest", 24, ""), ("rest", [C4], 24, "", False, False),
                      (24,), (24, "rest"), ("rest", ("rest", 24))):
            self.refused(thing)

    def test_other_names(self):
        for name in ("", "Rest", "REST", "rests", "rest ", " rest", "res", "r", "tones", "pause", "whole", b"rest", 0):
            self.refused((name, 24))


class TestTonesTold(SoundCase):
    def test_ordinary(self):
        for told in (tones(), tones([C4, E4, G4]), tones(word="la"), tones(opens=True), tones(closes=True),
                     tones(opens=True, closes=True), tones([E4, C5], 36, "Ky-", True, False)):
            sound = self.good(told)
            self.assertIsInstance(sound, Tones)
            self.assertEqual(sound.length, told[2])

    def test_lengths(self):
        for length in range(-3, 400):
            if 2 <= length <= 384:
                self.good(tones(length=length))
            else:
                self.refused(tones(length=length))
        for length in (4608, 10 ** 50, -10 ** 50, 24.0, "24", None, True, [24]):
            self.refused(tones(length=length))

    def test_how_many_pitches(self):
        pitches = [(step, 0, 4) for step in range(7)]
        for many in range(8):
            if 1 <= many <= 4:
                self.good(tones(pitches[:many]))
            else:
                self.refused(tones(pitches[:many]))

    def test_lines_that_dont_rise(self):
        for pitches in ([D4, C4], [C4, C4], [C4, E4, D4], [C4, E4, G4, E4], [C5, C4], [C4, (0, 0, 3)],
                        [C4, D4, D4], [C4, C4, D4], [G4, E4, C4]):
            self.refused(tones(pitches))

    def test_like_lines_with_other_leans(self):
        for one in range(-2, 3):
            for other in range(-2, 3):
                self.refused(tones([(0, one, 4), (0, other, 4)]))

    def test_lines_count_and_not_heights(self):
        self.good(tones([(6, 2, 4), (0, -2, 5)]))
        self.good(tones([(0, 2, 4), (1, -2, 4)]))
        self.refused(tones([(0, -2, 5), (6, 2, 4)]))

    def test_pitches_at_the_edges(self):
        self.good(tones([(0, -2, 0), (6, 2, 8)]))
        for pitch in ((7, 0, 4), (-1, 0, 4), (0, 3, 4), (0, -3, 4), (0, 0, 9), (0, 0, -1), [0, 0, 4], (0, 0),
                      (0, 0, 4, 0), (True, 0, 4), (0, False, 4), "c4", None, 4, C4 + C4, [C4]):
            self.refused(tones([pitch]))
            self.refused(tones([C4, pitch]))
            self.refused(tones([pitch, C5]))

    def test_other_things_as_pitches(self):
        for thing in no_numbers() + [(C4,), (C4, E4), C4, "c4", "", 4, {C4: E4}, {C4}]:
            self.refused(("tones", thing, 24, "", False, False))

    def test_words(self):
        for word in ("", "a", "-", "la", "La-", "a" * 12, "-" * 12):
            self.good(tones(word=word))
        for word in ("a" * 13, "-" * 13, "la la", " ", "la ", "la1", "(", ")", "la.", "\n", "la\n", None, 0, False,
                     ["la"], b"la", b"", (), ("l", "a")):
            self.refused(tones(word=word))

    def test_what_is_no_truth(self):
        for thing in [0, 1, None, "", "True", "(", 1.0, 0.0, [], [True], (), (True,), {}, b"", object(), Unfriendly()]:
            self.refused(tones(opens=thing))
            self.refused(tones(closes=thing))

    def test_one_part_more_or_fewer(self):
        told = tones(word="la")
        for many in range(6):
            self.refused(told[:many])
        for place in range(6):
            self.refused(told[:place] + told[place + 1:])
            self.refused(told[:place] + (told[place],) + told[place:])
        self.refused(told + (False,))

    def test_other_names(self):
        for name in ("", "Tones", "tone", "tones ", "rest", "note", None, 1, b"tones", ["tones"], Unfriendly()):
            self.refused((name,) + tones()[1:])


class TestAnything(SoundCase):
    def test_nothing_else_is_a_sound(self):
        for thing in no_numbers() + [0, 24, "", "rest", "r 1/4", (), ["rest", 24], list(tones()), ("rest", 24) * 2,
                                     Rest(24), Tones([C4], 24, "", False, False), (Rest(24),), Unfriendly()]:
            self.refused(thing)

    def test_other_things_in_each_place(self):
        for told in (("rest", 24), tones([C4, E4], 24, "la", False, False)):
            for place in range(len(told)):
                for thing in no_numbers():
                    if not (isinstance(thing, bool) and place >= 4):
                        self.refused(told[:place] + (thing,) + told[place + 1:])

    def test_nothing_handed_in_is_changed_or_kept(self):
        pitches = [C4, E4]
        told = ("tones", pitches, 24, "la", False, False)
        sound = sound_of(told)
        self.assertEqual(told, tones([C4, E4], word="la"))
        pitches.append(G4)
        self.assertEqual(sound.told(), tones([C4, E4], word="la"))
        again = sound_of(tones([C4, E4]))
        again.told()[1].pop()
        self.assertEqual(again.told(), tones([C4, E4]))
        bad = [C4, [0, 0, 5]]
        self.refused(("tones", bad, 24, "", False, False))
        self.assertEqual(bad, [C4, [0, 0, 5]])


if __name__ == "__main__":
    unittest.main()

import itertools
import random
import unittest

from barwright.bars import cut
from barwright.errors import BadStretch, TooFine, TuneError
from barwright.lengths import parted
from barwright.metres import beats
from barwright.threes import need_fine, threes_in
from barwright.tunes import Tune
from samples import ALL_METRES, FOUR, GROUPED, SIX, THREE, chance_tune, everything, tones


def filled(places, end):
    """Stretches that part a bar at these places."""
    ends = [0] + sorted(places) + [end]
    return [(one, other - one, number, False, False) for number, (one, other) in enumerate(zip(ends, ends[1:]))]


def by_the_words(places, begin, end):
    within = [place for place in places if begin < place < end]
    if not [place for place in within if place % 3]:
        return False
    if end - begin in (12, 24, 48) and not [place for place in within if (place - begin) % 2]:
        return True
    return None


class TestThreesIn(unittest.TestCase):
    def one_beat(self, length, places):
        told = threes_in(filled(places, length), [(0, length)])
        # The same beat behind another one, and ahead of one.
        moved = [24] + [place + 24 for place in places]
        behind = threes_in(filled(moved, length + 24), [(0, 24), (24, length + 24)])
        ahead = threes_in(filled(places + [length], length + 12), [(0, length), (length, length + 12)])
        self.assertEqual(behind, None if told is None else [False] + told)
        self.assertEqual(ahead, None if told is None else told + [False])
        return None if told is None else told[0]

    def test_no_place_within(self):
        for length in (12, 24, 36, 48, 60, 72, 84, 96, 108, 192):
            self.assertIs(self.one_beat(length, []), False)

    def test_multiples_of_three(self):
        for length in (12, 24, 36, 48, 60, 96):
            for place in range(3, length, 3):
                self.assertIs(self.one_beat(length, [place]), False)
            self.assertIs(self.one_beat(length, list(range(3, length, 3))), False)

    def test_one_place(self):
        for length in (12, 24, 36, 48, 60, 72, 84, 96):
            for place in range(1, length):
                told = self.one_beat(length, [place])
                if place % 3 == 0:
                    self.assertIs(told, False, (length, place))
                elif length in (12, 24, 48) and place % 2 == 0:
                    self.assertIs(told, True, (length, place))
                else:
                    self.assertIsNone(told, (length, place))

    def test_some_by_hand(self):
        for length, places, told in (
                (24, [8, 16], True), (24, [8], True), (24, [12, 16], True), (24, [6, 8], True), (24, [6, 12, 18], False),
                (24, [3, 8], None), (24, [8, 9], None), (24, [8, 21], None), (24, [3, 9], False), (24, [1], None),
                (24, [7], None), (24, [2, 23], None), (24, [2, 22], True), (12, [4, 8], True), (12, [2, 10], True),
                (12, [4, 9], None), (12, [3, 6, 9], False), (12, [3, 4], None), (12, [5], None), (48, [16, 32], True),
                (48, [24, 32], True), (48, [3, 16], None), (48, [16, 45], None), (48, [24, 36], False),
                (48, [45], False), (36, [8], None), (36, [8, 16], None), (36, [12, 24], False), (36, [9], False),
                (36, [34], None), (60, [20, 40], None), (60, [12], False), (60, [2], None), (96, [32, 64], None),
                (96, [48], False), (96, [94], None), (72, [24, 48], False), (72, [16], None)):
            self.assertIs(self.one_beat(length, places), told, (length, places))

    def test_each_pair_of_places(self):
        for length in (12, 24, 36, 48):
            for places in itertools.combinations(range(1, length), 2):
                self.assertIs(self.one_beat(length, list(places)), by_the_words(places, 0, length), (length, places))

    def test_each_beat_by_itself(self):
        four = beats(FOUR)
        self.assertEqual(threes_in(filled([], 96), four), [False] * 4)
        self.assertEqual(threes_in(filled([8, 16, 24, 27, 48, 72, 76], 96), four), [True, False, False, True])
        self.assertEqual(threes_in(filled([8, 27], 96), four), [True, False, False, False])
        self.assertEqual(threes_in(filled([32, 40], 96), four), [False, True, False, False])
        self.assertEqual(threes_in(filled([8, 80], 96), four), [True, False, False, True])
        self.assertIsNone(threes_in(filled([8, 16, 24, 25], 96), four))
        self.assertIsNone(threes_in(filled([95], 96), four))
        self.assertIsNone(threes_in(filled([1], 96), four))
        self.assertIsNone(threes_in(filled([51, 56], 96), four))

    def test_beats_ends_are_not_within(self):
        self.assertEqual(threes_in(filled([24, 48, 72], 96), beats(FOUR)), [False] * 4)
        self.assertEqual(threes_in(filled([36, 60], 84), beats((7, 8, (3, 2, 2)))), [False] * 3)
        self.assertEqual(threes_in(filled([36, 44, 52, 60], 84), beats((7, 8, (3, 2, 2)))), [False, True, False])
        self.assertIsNone(threes_in(filled([8, 36, 44, 60], 84), beats((7, 8, (3, 2, 2)))))

    def test_rests_count_like_tones(self):
        for places in (None, 0):
            stretches = [(0, 8, places, False, False), (8, 8, None, False, False), (16, 8, 1, False, True)]
            self.assertEqual(threes_in(stretches, [(0, 24)]), [True])

    def test_just_where_all_stretches_can_be_parted(self):
        chance = random.Random(42)
        small = [metre for metre in ALL_METRES + GROUPED if len(beats(metre)) <= 4]
        seen = {None: 0, True: 0}
        for case in range(400):
            metre = chance.choice(small)
            pairs = beats(metre)
            end = pairs[-1][1]
            pool = chance.choice([range(2, end, 2), range(3, end, 3), range(4, end, 4), range(8, end, 8), range(1, end)])
            places = sorted(set(chance.choice(pool) for place in range(chance.randint(1, 5)) if len(pool) > 0))
            stretches = filled(places, end)
            told = threes_in(stretches, pairs)
            seen[None if told is None else True] += 1
            if told is None:
                self.assertEqual(self.ways(stretches, pairs), [])
            else:
                self.assertIn(tuple(told), self.ways(stretches, pairs))
        self.assertGreater(min(seen.values()), 50)

    def ways(self, stretches, pairs):
        """All beats in threes, with which all stretches can be parted."""
        choices = [(True, False) if end - begin in (12, 24, 48) else (False,) for begin, end in pairs]
        return [threes for threes in itertools.product(*choices) if self.can_be(stretches, pairs, list(threes))]

    def can_be(self, stretches, pairs, threes):
        try:
            for stretch in stretches:
                parted(stretch[0], stretch[0] + stretch[1], pairs, threes)
        except BadStretch:
            return False
        return True

    def test_handed_in_lists_stay_and_told_ones_are_the_askers_own(self):
        stretches = filled([8, 16, 24], 96)
        pairs = beats(FOUR)
        told = threes_in(stretches, pairs)
        self.assertEqual(stretches, filled([8, 16, 24], 96))
        self.assertEqual(pairs, beats(FOUR))
        told.clear()
        again = threes_in(stretches, pairs)
        self.assertEqual(again, [True, False, False, False])
        stretches.clear()
        pairs.clear()
        self.assertEqual(again, [True, False, False, False])


class TestNeedFine(unittest.TestCase):
    def tune(self, voices, metres=((1, FOUR),)):
        return Tune(list(metres), [(1, 0)], voices)

    def fine(self, voices, metres=((1, FOUR),)):
        self.assertIsNone(need_fine(self.tune(voices, metres)))

    def refused(self, bar, voice, voices, metres=((1, FOUR),)):
        with self.assertRaises(TuneError) as caught:
            need_fine(self.tune(voices, metres))
        self.assertIs(caught.exception.__class__, TooFine)
        self.assertEqual((caught.exception.bar, caught.exception.voice), (bar, voice))

    def test_ordinary(self):
        self.fine([[tones(length=24)] * 4])
        self.fine([[tones(length=8)] * 12])
        self.fine([[tones(length=3)] * 32])
        self.fine([[tones(length=8)] * 3 + [tones(length=12)] * 2 + [tones(length=16), tones(length=8)]])
        self.fine([[tones(length=32)] * 3], [(1, FOUR)])
        self.fine([[tones(length=4)] * 6], [(1, (2, 8, ()))])
        self.fine([[tones(length=16)] * 6], [(1, (2, 2, ()))])

    def test_beats_that_cant_be(self):
        self.refused(1, 1, [[tones(length=5)]])
        self.refused(1, 1, [[tones(length=8), tones(length=3), tones(length=3)]])
        self.refused(1, 1, [[tones(length=24), tones(length=7)]])
        self.refused(1, 1, [[tones(length=8)] * 9], [(1, SIX)])
        self.refused(1, 1, [[tones(length=95)]])
        self.refused(1, 1, [[tones(length=16)] * 2], [(1, (5, 8, (5,)))])

    def test_the_end_of_the_last_sound_counts(self):
        self.fine([[tones(length=96)]])
        self.refused(1, 1, [[tones(length=91)]])
        self.refused(2, 1, [[tones(length=97)]])

    def test_each_voice_by_itself(self):
        self.fine([[tones(length=8)] * 3, [tones(length=3)] * 8])
        self.fine([[tones(length=3)] * 8, [tones(length=8)] * 3])

    def test_the_first_bar_and_there_the_first_voice(self):
        good = [tones(length=96)] * 3
        bad = [tones(length=96), tones(length=5), tones(length=91), tones(length=96)]
        worse = [tones(length=5), tones(length=91), tones(length=96), tones(length=96)]
        last = [tones(length=96)] * 2 + [tones(length=95)]
        self.refused(2, 1, [bad])
        self.refused(2, 2, [good, bad])
        self.refused(2, 1, [bad, good])
        self.refused(2, 1, [bad, bad])
        self.refused(1, 2, [bad, worse])
        self.refused(1, 1, [worse, bad])
        self.refused(1, 1, [worse, worse])
        self.refused(3, 1, [last, good])
        self.refused(3, 2, [good, last])
        self.refused(2, 2, [last, bad])

    def test_over_a_bars_end(self):
        self.refused(2, 1, [[tones(length=48), tones(length=53), tones(length=91)]])
        self.fine([[tones(length=48), tones(length=56), tones(length=88)]])
        self.refused(1, 1, [[tones(length=91), tones(length=101)]])

    def test_the_metre_of_the_bar_counts(self):
        thirds = [tones(length=72)] + [tones(length=8)] * 9
        self.fine([thirds], [(1, THREE)])
        self.refused(2, 1, [thirds], [(1, THREE), (2, SIX)])
        self.refused(1, 1, [thirds[::-1]], [(1, SIX), (2, THREE)])
        self.fine([thirds[::-1]], [(1, THREE), (2, SIX)])

    def test_numbers_are_whole(self):
        with self.assertRaises(TooFine) as caught:
            need_fine(self.tune([[tones(length=5)]]))
        self.assertIs(caught.exception.bar.__class__, int)
        self.assertIs(caught.exception.voice.__class__, int)

    def test_many(self):
        chance = random.Random(420)
        fine = 0
        for lengths in ([8, 16, 24], [6, 12, 24, 36], [12, 24, 48], range(2, 385)):
            for case in range(60):
                tune = chance_tune(chance, lengths)
                before = everything(tune)
                bad = [(bar + 1, voice + 1) for bar, voices in enumerate(cut(tune))
                       for voice, stretches in enumerate(voices)
                       if threes_in(stretches, beats(tune.frames()[bar][1])) is None]
                if bad:
                    with self.assertRaises(TooFine) as caught:
                        need_fine(tune)
                    self.assertEqual((caught.exception.bar, caught.exception.voice), min(bad))
                else:
                    fine += 1
                    self.assertIsNone(need_fine(tune))
                self.assertEqual(everything(tune), before)
        self.assertGreater(fine, 20)


if __name__ == "__main__":
    unittest.main()

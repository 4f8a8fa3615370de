import copy
import random
import unittest

from barwright.bars import beats_by_bars, cut
from barwright.metres import bar_grains
from barwright.tunes import Tune
from samples import C4, E4, FOUR, G4, SIX, THREE, chance_tune, everything, rest, tones


def cut_by_grains(tune):
    """The bars as they are when each grain is looked at by itself."""
    bars = []
    for begin, metre, key in tune.frames():
        voices = []
        for voice in range(1, tune.many() + 1):
            owners = []
            for place, told in enumerate(tune.sounds_told(voice)):
                owners += [None] * told[1] if told[0] == "rest" else [place] * told[2]
            owners += [None] * 5000
            end = begin + bar_grains(metre)
            stretches = []
            for grain in range(begin, end):
                owner = owners[grain]
                if grain == begin or owner != owners[grain - 1]:
                    comes = owner is not None and grain > 0 and owners[grain - 1] == owner
                    stretches.append([grain - begin, 0, owner, comes, False])
                stretches[-1][1] += 1
            stretches[-1][4] = owners[end - 1] is not None and owners[end] == owners[end - 1]
            voices.append([tuple(stretch) for stretch in stretches])
        bars.append(voices)
    return bars


class TestCut(unittest.TestCase):
    def cut(self, voices, metres=((1, FOUR),), keys=((1, 0),)):
        return cut(Tune(list(metres), list(keys), voices))

    def test_one_tone(self):
        self.assertEqual(self.cut([[tones(length=96)]]), [[[(0, 96, 0, False, False)]]])
        self.assertEqual(self.cut([[tones(length=24)]]), [[[(0, 24, 0, False, False), (24, 72, None, False, False)]]])

    def test_within_a_bar(self):
        self.assertEqual(
            self.cut([[rest(12), tones(length=24), tones(length=8), rest(4), tones(length=40)]]),
            [[[(0, 12, None, False, False), (12, 24, 1, False, False), (36, 8, 2, False, False),
               (44, 4, None, False, False), (48, 40, 4, False, False), (88, 8, None, False, False)]]])

    def test_that_fill_bars(self):
        self.assertEqual(
            self.cut([[tones(length=96), rest(96), tones(length=96)]]),
            [[[(0, 96, 0, False, False)]], [[(0, 96, None, False, False)]], [[(0, 96, 2, False, False)]]])

    def test_over_one_bars_end(self):
        self.assertEqual(
            self.cut([[tones(length=72), tones(length=48), tones(length=72)]]),
            [[[(0, 72, 0, False, False), (72, 24, 1, False, True)]],
             [[(0, 24, 1, True, False), (24, 72, 2, False, False)]]])

    def test_over_more_than_one_bars_end(self):
        self.assertEqual(
            self.cut([[tones(length=95), tones(length=384)]]),
            [[[(0, 95, 0, False, False), (95, 1, 1, False, True)]], [[(0, 96, 1, True, True)]], [[(0, 96, 1, True, True)]],
             [[(0, 96, 1, True, True)]], [[(0, 95, 1, True, False), (95, 1, None, False, False)]]])

    def test_that_ends_at_a_bars_end(self):
        self.assertEqual(
            self.cut([[tones(length=192), tones(length=96)]]),
            [[[(0, 96, 0, False, True)]], [[(0, 96, 0, True, False)]], [[(0, 96, 1, False, False)]]])

    def test_rests_neither_come_nor_go(self):
        self.assertEqual(
            self.cut([[tones(length=48), rest(240), tones(length=96)]]),
            [[[(0, 48, 0, False, False), (48, 48, None, False, False)]], [[(0, 96, None, False, False)]],
             [[(0, 96, None, False, False)]], [[(0, 96, 2, False, False)]]])

    def test_a_voice_that_ends_ahead_of_the_other_one(self):
        long = [tones(length=300)]
        short = [rest(24), tones(length=48)]
        long_bars = [[(0, 96, 0, False, True)], [(0, 96, 0, True, True)], [(0, 96, 0, True, True)],
                     [(0, 12, 0, True, False), (12, 84, None, False, False)]]
        short_bars = [[(0, 24, None, False, False), (24, 48, 1, False, False), (72, 24, None, False, False)],
                      [(0, 96, None, False, False)], [(0, 96, None, False, False)], [(0, 96, None, False, False)]]
        self.assertEqual(self.cut([long, short]), [list(pair) for pair in zip(long_bars, short_bars)])
        self.assertEqual(self.cut([short, long]), [list(pair) for pair in zip(short_bars, long_bars)])

    def test_metres_that_change(self):
        self.assertEqual(
            self.cut([[tones(length=100), tones(length=200)]], [(1, FOUR), (2, THREE), (3, SIX), (4, (1, 8, ()))]),
            [[[(0, 96, 0, False, True)]], [[(0, 4, 0, True, False), (4, 68, 1, False, True)]], [[(0, 72, 1, True, True)]],
             ] + [[[(0, 12, 1, True, True)]]] * 4 + [[[(0, 12, 1, True, False)]]])

    def test_tidy_places(self):
        self.assertEqual(
            self.cut([[rest(12), rest(12), tones(length=48), rest(24), rest(24), tones(length=48), rest(24)]]),
            [[[(0, 24, None, False, False), (24, 48, 1, False, False), (72, 24, None, False, False)]],
             [[(0, 24, None, False, False), (24, 48, 3, False, False), (72, 24, None, False, False)]]])

    def test_like_neighbours_stay_apart(self):
        self.assertEqual(self.cut([[tones(length=48), tones(length=48)]]),
                         [[[(0, 48, 0, False, False), (48, 48, 1, False, False)]]])

    def test_kinds(self):
        for bar in self.cut([[tones(length=100), rest(3), tones(length=7)], [tones()]]):
            self.assertIs(bar.__class__, list)
            for stretches in bar:
                self.assertIs(stretches.__class__, list)
                for stretch in stretches:
                    self.assertIs(stretch.__class__, tuple)
                    self.assertIs(stretch[3].__class__, bool)
                    self.assertIs(stretch[4].__class__, bool)

    def test_many(self):
        chance = random.Random(41)
        for lengths in ([12, 24, 36, 48], [2, 3, 4, 5, 200], range(2, 385)):
            for case in range(80):
                tune = chance_tune(chance, lengths)
                before = everything(tune)
                bars = cut(tune)
                self.assertEqual(bars, cut_by_grains(tune))
                self.assertEqual(everything(tune), before)
                self.each_bar_is_filled(tune, bars)

    def each_bar_is_filled(self, tune, bars):
        self.assertEqual(len(bars), len(tune.frames()))
        for frame, bar in zip(tune.frames(), bars):
            self.assertEqual(len(bar), tune.many())
            for stretches in bar:
                at = 0
                for stretch in stretches:
                    self.assertEqual(stretch[0], at)
                    self.assertGreater(stretch[1], 0)
                    at += stretch[1]
                self.assertEqual(at, bar_grains(frame[1]))

    def test_told_lists_are_the_askers_own(self):
        tune = Tune([(1, FOUR)], [(1, 0)], [[tones([C4, E4], 150), rest(12), tones([G4], 300)], [rest(100), tones()]])
        before = everything(tune)
        one = cut(tune)
        told = copy.deepcopy(one)
        other = cut(tune)
        one[0][0].clear()
        one[0][1].append((0, 0, None, False, False))
        one[1].pop()
        one.reverse()
        self.assertEqual(other, told)
        self.assertEqual(cut(tune), told)
        self.assertEqual(everything(tune), before)

    def test_rests_of_one_bar_are_no_list_of_another(self):
        tune = Tune([(1, FOUR)], [(1, 0)], [[tones(length=384)], [tones(length=2)]])
        bars = cut(tune)
        bars[1][1].clear()
        self.assertEqual(bars[2][1], [(0, 96, None, False, False)])


class TestBeats(unittest.TestCase):
    def test_by_bars(self):
        tune = Tune([(1, FOUR), (2, (7, 8, (3, 2, 2))), (3, SIX)], [(1, 0)], [[tones(length=200)]])
        self.assertEqual(beats_by_bars(tune), [
            [(0, 24), (24, 48), (48, 72), (72, 96)], [(0, 36), (36, 60), (60, 84)], [(0, 36), (36, 72)]])

    def test_the_askers_own(self):
        tune = Tune([(1, FOUR)], [(1, 0)], [[tones(length=200)]])
        told = beats_by_bars(tune)
        told[0].clear()
        self.assertEqual(len(told[1]), 4)
        self.assertEqual([len(pairs) for pairs in beats_by_bars(tune)], [4, 4, 4])


if __name__ == "__main__":
    unittest.main()

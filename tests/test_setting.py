import copy
import itertools
import random
import unittest

from barwright.bars import cut
from barwright.lengths import all_pieces, fits, parted, piece_grains
from barwright.metres import bar_grains, beats
from barwright.setting import bare_bars, beamed
from barwright.threes import threes_in
from barwright.tunes import Tune
from samples import (
    ALL_METRES, C4, C5, E4, FINE_LENGTHS, FOUR, G4, GROUPED, SIX, THREE, everything, fine_tune, rest, tones)

WHOLE = (1, 0, False)
HALF = (2, 0, False)
QUARTER = (4, 0, False)
EIGHTH = (8, 0, False)
SIXTEENTH = (16, 0, False)
LAST = (32, 0, False)
DOTTED_HALF = (2, 1, False)
DOTTED_QUARTER = (4, 1, False)
EIGHTH_IN_THREES = (8, 0, True)
QUARTER_IN_THREES = (4, 0, True)


def bare(at, piece, pitches=(C4,), comes=False, goes=False, word="", begins=False, ends=False):
    return ("tones", at, list(pitches), piece, comes, goes, word, begins, ends)


def pause(at, piece):
    return ("rest", at, piece)


def rejoined(bars, voice):
    """The told sounds that a voice's bare ones make, as they are tied; the rest at the end goes."""
    sounds = []
    for bares in [bar[voice] for bar in bars]:
        for one in bares:
            if one[0] != "tones":
                length = one[1] if one[0] == "whole" else piece_grains(one[2])
                if sounds and sounds[-1][0] == "rest":
                    sounds[-1] = rest(sounds[-1][1] + length)
                else:
                    sounds.append(rest(length))
            elif one[4]:
                last = sounds[-1]
                sounds[-1] = last[:2] + (last[2] + piece_grains(one[3]),) + last[3:]
            else:
                sounds.append(("tones", one[2], piece_grains(one[3])) + one[6:])
    return sounds[:-1] if sounds[-1][0] == "rest" else sounds


class TestBareBars(unittest.TestCase):
    def bares(self, voices, metres=((1, FOUR),), keys=((1, 0),)):
        return bare_bars(Tune(list(metres), list(keys), voices))

    def one(self, sounds, metre=FOUR):
        """The bars of one voice."""
        return [bar[0] for bar in self.bares([sounds], [(1, metre)])]

    def test_a_sound_of_one_piece(self):
        self.assertEqual(self.one([tones([C4, E4], 96, "la")]), [[bare(0, WHOLE, [C4, E4], word="la")]])
        self.assertEqual(self.one([tones(length=24)]), [[bare(0, QUARTER), pause(24, DOTTED_HALF)]])
        self.assertEqual(self.one([tones(length=24), tones([G4], 72, "-")]),
                         [[bare(0, QUARTER), bare(24, DOTTED_HALF, [G4], word="-")]])

    def test_a_sound_of_several_pieces_in_one_bar(self):
        self.assertEqual(
            self.one([tones(length=12), tones([E4], 36, "la"), tones([G4], 48)]),
            [[bare(0, EIGHTH), bare(12, EIGHTH, [E4], goes=True, word="la"), bare(24, QUARTER, [E4], comes=True),
              bare(48, HALF, [G4])]])
        self.assertEqual(
            self.one([tones(length=3), tones([E4], 66), tones(length=27)]),
            [[bare(0, LAST), bare(3, (8, 2, False), [E4], goes=True), bare(24, (4, 2, False), [E4], True, True),
              bare(66, LAST, [E4], comes=True), bare(69, LAST, goes=True), bare(72, QUARTER, comes=True)]])

    def test_slurs_and_syllable_at_the_very_first_piece_alone(self):
        self.assertEqual(
            self.one([tones([C4], 12, "", True), tones([E4], 132, "lo", True, True), tones([G4], 48, "x", False, True)]),
            [[bare(0, EIGHTH, begins=True), bare(12, EIGHTH, [E4], False, True, "lo", True, True),
              bare(24, DOTTED_HALF, [E4], True, True)],
             [bare(0, HALF, [E4], True, False), bare(48, HALF, [G4], word="x", ends=True)]])

    def test_through_one_bars_end(self):
        self.assertEqual(
            self.one([rest(72), tones([C4, G4], 48, "la")]),
            [[pause(0, DOTTED_HALF), bare(72, QUARTER, [C4, G4], goes=True, word="la")],
             [bare(0, QUARTER, [C4, G4], comes=True), pause(24, DOTTED_HALF)]])

    def test_up_to_a_bars_end(self):
        self.assertEqual(self.one([tones(length=96), tones([E4], 96)]), [[bare(0, WHOLE)], [bare(0, WHOLE, [E4])]])

    def test_through_more_than_one_bars_end(self):
        self.assertEqual(
            self.one([rest(84), tones([C5], 252, "Ky-", True), tones(length=48, closes=True)]),
            [[pause(0, (2, 2, False)), bare(84, EIGHTH, [C5], goes=True, word="Ky-", begins=True)],
             [bare(0, WHOLE, [C5], True, True)], [bare(0, WHOLE, [C5], True, True)],
             [bare(0, HALF, [C5], True, False), bare(48, HALF, ends=True)]])

    def test_rests_of_several_pieces(self):
        self.assertEqual(self.one([tones(length=12), rest(60), tones(length=24)]),
                         [[bare(0, EIGHTH), pause(12, EIGHTH), pause(24, HALF), bare(72, QUARTER)]])
        self.assertEqual(self.one([tones(length=6)]),
                         [[bare(0, SIXTEENTH), pause(6, (8, 1, False)), pause(24, DOTTED_HALF)]])

    def test_bars_of_rest(self):
        self.assertEqual(
            self.one([rest(96), tones(length=96), rest(144), tones(length=48)]),
            [[("whole", 96)], [bare(0, WHOLE)], [("whole", 96)], [pause(0, HALF), bare(48, HALF)]])
        for metre in ALL_METRES + GROUPED:
            length = bar_grains(metre)
            self.assertEqual(self.one([rest(2 * length), tones(length=12)], metre)[:2], [[("whole", length)]] * 2)

    def test_a_rest_that_one_piece_could_tell_is_a_whole_one(self):
        self.assertEqual(self.one([rest(24), tones(length=24)], (1, 4, ())), [[("whole", 24)], [bare(0, QUARTER)]])

    def test_bars_of_rest_behind_a_voices_last_sound(self):
        metres = [(1, FOUR), (2, THREE), (3, SIX), (4, (7, 8, ()))]
        for place, short in ((1, [tones([G4], 24)]), (0, [tones([G4], 24)])):
            voices = [[tones(length=96), tones(length=144), tones(length=12)]]
            voices.insert(place, short)
            told = [bar[place] for bar in self.bares(voices, metres)]
            self.assertEqual(told, [[bare(0, QUARTER, [G4]), pause(24, DOTTED_HALF)], [("whole", 72)], [("whole", 72)],
                                    [("whole", 84)]])

    def test_two_voices(self):
        self.assertEqual(
            self.bares([[tones([C5], 144, "la"), tones([G4], 48)], [tones([C4], 24, "lo"), rest(96), tones([E4], 72)]]),
            [[[bare(0, WHOLE, [C5], goes=True, word="la")], [bare(0, QUARTER, word="lo"), pause(24, DOTTED_HALF)]],
             [[bare(0, HALF, [C5], comes=True), bare(48, HALF, [G4])],
              [pause(0, QUARTER), bare(24, DOTTED_HALF, [E4])]]])

    def test_threes_in_one_voice_and_not_in_the_other(self):
        thirds = [tones(length=8), tones(length=8), tones([E4], 8), tones(length=72)]
        halves = [tones(length=12), tones([G4], 12, "la"), tones(length=72)]
        in_threes = [bare(0, EIGHTH_IN_THREES), bare(8, EIGHTH_IN_THREES), bare(16, EIGHTH_IN_THREES, [E4]),
                     bare(24, DOTTED_HALF)]
        plain = [bare(0, EIGHTH), bare(12, EIGHTH, [G4], word="la"), bare(24, DOTTED_HALF)]
        self.assertEqual(self.bares([thirds, halves]), [[in_threes, plain]])
        self.assertEqual(self.bares([halves, thirds]), [[plain, in_threes]])
        self.assertEqual(self.bares([thirds, thirds]), [[in_threes, in_threes]])

    def test_threes_in_one_beat_and_not_in_the_next(self):
        self.assertEqual(
            self.one([tones(length=12), tones([E4], 20, "la"), tones([G4], 16), rest(16), tones(length=32)]),
            [[bare(0, EIGHTH), bare(12, EIGHTH, [E4], goes=True, word="la"), bare(24, EIGHTH_IN_THREES, [E4], comes=True),
              bare(32, QUARTER_IN_THREES, [G4]), pause(48, QUARTER_IN_THREES), bare(64, EIGHTH_IN_THREES, goes=True),
              bare(72, QUARTER, comes=True)]])

    def test_a_sound_through_a_beat_in_threes(self):
        self.assertEqual(
            self.one([tones(length=16), tones([E4], 80)]),
            [[bare(0, QUARTER_IN_THREES), bare(16, EIGHTH_IN_THREES, [E4], goes=True),
              bare(24, DOTTED_HALF, [E4], comes=True)]])

    def test_threes_in_beats_of_half_and_of_eighth_notes(self):
        self.assertEqual(self.one([tones(length=16), tones(length=32), tones(length=48)], (2, 2, ())),
                         [[bare(0, QUARTER_IN_THREES), bare(16, (2, 0, True)), bare(48, HALF)]])
        self.assertEqual(self.one([tones(length=4), tones(length=8), tones(length=12)], (2, 8, (1, 1))),
                         [[bare(0, (16, 0, True)), bare(4, EIGHTH_IN_THREES), bare(12, EIGHTH)]])

    def test_beats_of_all_lengths(self):
        long = [tones(length=6), tones([E4], 54, "la")]
        for metre, pieces in (
                ((5, 8, (1, 1, 1, 1, 1)), [SIXTEENTH, SIXTEENTH, HALF]),
                ((5, 8, ()), [SIXTEENTH, (8, 1, False), DOTTED_QUARTER]),
                ((5, 8, (3, 2)), [SIXTEENTH, (4, 0, False), SIXTEENTH, QUARTER]),
                ((5, 8, (4, 1)), [SIXTEENTH, (4, 2, False), EIGHTH]),
                ((5, 8, (5,)), [SIXTEENTH, HALF, SIXTEENTH]),
                ((5, 8, (1, 4)), [SIXTEENTH, SIXTEENTH, HALF])):
            made = self.one(long, metre)[0]
            self.assertEqual([one[3] for one in made], pieces, metre)
            self.assertEqual([one[4] for one in made], [False, False] + [True] * (len(pieces) - 2))
            self.assertEqual([one[5] for one in made], [False] + [True] * (len(pieces) - 2) + [False])
            self.assertEqual([one[6] for one in made], ["", "la"] + [""] * (len(pieces) - 2))

    def test_the_metre_of_each_bar_counts(self):
        sounds = [tones(length=72), tones([E4], 12), tones([G4], 36), tones(length=24)]
        self.assertEqual(
            [bar[0] for bar in self.bares([sounds], [(1, THREE), (2, SIX)])],
            [[bare(0, DOTTED_HALF)],
             [bare(0, EIGHTH, [E4]), bare(12, QUARTER, [G4], goes=True), bare(36, EIGHTH, [G4], comes=True),
              bare(48, QUARTER)]])
        self.assertEqual(
            [bar[0] for bar in self.bares([sounds], [(1, THREE)])],
            [[bare(0, DOTTED_HALF)],
             [bare(0, EIGHTH, [E4]), bare(12, EIGHTH, [G4], goes=True), bare(24, QUARTER, [G4], comes=True),
              bare(48, QUARTER)]])

    def test_kinds(self):
        bars = self.bares([[tones(length=100), rest(28), tones([C4, G4], 16, "la")], [rest(96), tones()]])
        self.assertIs(bars.__class__, list)
        for bar in bars:
            self.assertIs(bar.__class__, list)
            for bares in bar:
                self.assertIs(bares.__class__, list)
                for one in bares:
                    self.assertIs(one.__class__, tuple)
                    self.assertEqual(len(one), {"whole": 2, "rest": 3, "tones": 9}[one[0]])
                    if one[0] == "tones":
                        self.assertIs(one[2].__class__, list)
                        self.assertEqual([one[place].__class__ for place in (4, 5, 7, 8)], [bool] * 4)

    def test_many(self):
        chance = random.Random(52)
        for lengths in FINE_LENGTHS:
            for case in range(25):
                tune = fine_tune(chance, lengths)
                before = everything(tune)
                bars = bare_bars(tune)
                self.assertEqual(everything(tune), before)
                self.assertEqual(len(bars), len(tune.frames()))
                for voice in range(tune.many()):
                    self.assertEqual(rejoined(bars, voice), tune.sounds_told(voice + 1))
                self.each_bar_is_filled(tune, bars)
                self.ties_are_told_at_both_ends(tune, bars)

    def each_bar_is_filled(self, tune, bars):
        for frame, bar, voices in zip(tune.frames(), bars, cut(tune)):
            self.assertEqual(len(bar), tune.many())
            pairs = beats(frame[1])
            for bares, stretches in zip(bar, voices):
                if len(stretches) == 1 and stretches[0][2] is None:
                    self.assertEqual(bares, [("whole", bar_grains(frame[1]))])
                    continue
                threes = threes_in(stretches, pairs)
                at = 0
                for one in bares:
                    self.assertEqual(one[1], at)
                    piece = one[3] if one[0] == "tones" else one[2]
                    at += piece_grains(piece)
                    self.assertTrue(fits(one[1], at, piece, pairs, threes))
                self.assertEqual(at, bar_grains(frame[1]))
                pieces = []
                for stretch in stretches:
                    pieces += parted(stretch[0], stretch[0] + stretch[1], pairs, threes)
                self.assertEqual([one[3] if one[0] == "tones" else one[2] for one in bares], pieces)

    def ties_are_told_at_both_ends(self, tune, bars):
        for voice in range(tune.many()):
            row = [one for bar in bars for one in bar[voice]] + [pause(0, WHOLE)]
            self.assertFalse(row[0][0] == "tones" and row[0][4])
            for one, other in zip(row, row[1:]):
                goes = one[0] == "tones" and one[5]
                comes = other[0] == "tones" and other[4]
                self.assertEqual(goes, comes)
                if comes:
                    self.assertEqual(one[2], other[2])
                    self.assertEqual(other[6:], ("", False, False))

    def test_told_lists_are_the_askers_own(self):
        tune = Tune([(1, FOUR)], [(1, 0)], [[rest(12), tones([C4, E4], 276, "la"), tones([G4], 96)], [rest(84), tones()]])
        before = everything(tune)
        one = bare_bars(tune)
        told = copy.deepcopy(one)
        other = bare_bars(tune)
        one[0][0][1][2].clear()
        self.assertEqual(one[0][0][2][2], [C4, E4])
        one[1][0][0][2].append(G4)
        self.assertEqual(one[2][0][0][2], [C4, E4])
        one[0][1].clear()
        one[1].pop()
        one.reverse()
        self.assertEqual(other, told)
        self.assertEqual(bare_bars(tune), told)
        self.assertEqual(everything(tune), before)


class TestBeamed(unittest.TestCase):
    FOUR_BEATS = [(0, 24), (24, 48), (48, 72), (72, 96)]

    def joined(self, bares, pairs=None):
        pairs = self.FOUR_BEATS if pairs is None else pairs
        handed = (copy.deepcopy(bares), copy.deepcopy(pairs))
        told = beamed(bares, pairs)
        self.assertIs(told.__class__, list)
        self.assertEqual([truth.__class__ for truth in told], [bool] * len(bares))
        self.assertEqual((bares, pairs), handed)
        return told

    def test_none_and_one(self):
        self.assertEqual(self.joined([]), [])
        self.assertEqual(self.joined([], []), [])
        self.assertEqual(self.joined([bare(0, EIGHTH)]), [False])
        self.assertEqual(self.joined([pause(0, EIGHTH)]), [False])
        self.assertEqual(self.joined([("whole", 96)]), [False])

    def test_two_in_one_beat(self):
        self.assertEqual(self.joined([bare(0, EIGHTH), bare(12, EIGHTH)]), [True, False])
        self.assertEqual(self.joined([bare(72, EIGHTH), bare(84, EIGHTH)]), [True, False])

    def test_two_in_two_beats(self):
        self.assertEqual(self.joined([bare(12, EIGHTH), bare(24, EIGHTH)]), [False, False])
        self.assertEqual(self.joined([bare(69, LAST), bare(72, LAST)]), [False, False])

    def test_a_row_of_them(self):
        eighths = [bare(at, EIGHTH) for at in range(0, 96, 12)]
        self.assertEqual(self.joined(eighths), [True, False] * 4)
        self.assertEqual(self.joined(eighths, [(0, 48), (48, 96)]), [True, True, True, False] * 2)
        self.assertEqual(self.joined(eighths, [(0, 96)]), [True] * 7 + [False])
        self.assertEqual(self.joined(eighths, [(0, 36), (36, 60), (60, 96)]),
                         [True, True, False, True, False, True, True, False])

    def test_each_two_values(self):
        for one, other in itertools.product(all_pieces(False) + all_pieces(True), repeat=2):
            at = piece_grains(one)
            told = one[0] >= 8 and other[0] >= 8
            self.assertEqual(self.joined([bare(0, one), bare(at, other)], [(0, 192)]), [told, False])

    def test_values_of_four_side_by_side(self):
        self.assertEqual(self.joined([bare(0, QUARTER), bare(24, EIGHTH), bare(36, EIGHTH)], [(0, 48)]),
                         [False, True, False])
        self.assertEqual(self.joined([bare(0, EIGHTH), bare(12, QUARTER), bare(36, EIGHTH)], [(0, 48)]), [False] * 3)
        self.assertEqual(self.joined([bare(0, EIGHTH_IN_THREES), bare(8, QUARTER_IN_THREES)]), [False, False])
        self.assertEqual(self.joined([bare(0, EIGHTH_IN_THREES), bare(8, EIGHTH_IN_THREES), bare(16, EIGHTH_IN_THREES)]),
                         [True, True, False])

    def test_rests_are_never_joined(self):
        self.assertEqual(self.joined([bare(0, SIXTEENTH), pause(6, SIXTEENTH), bare(12, SIXTEENTH), bare(18, SIXTEENTH)]),
                         [False, False, True, False])
        self.assertEqual(self.joined([pause(0, EIGHTH), bare(12, EIGHTH)]), [False, False])
        self.assertEqual(self.joined([bare(0, EIGHTH), pause(12, EIGHTH)]), [False, False])
        self.assertEqual(self.joined([pause(0, EIGHTH), pause(12, EIGHTH)]), [False, False])

    def test_a_piece_that_goes_on_beyond_its_beat(self):
        long = (8, 2, False)
        self.assertEqual(self.joined([bare(0, EIGHTH), bare(12, long), bare(33, LAST), bare(36, EIGHTH)]),
                         [True, False, True, False])
        self.assertEqual(self.joined([bare(6, (8, 1, False)), bare(24, EIGHTH)]), [False, False])
        self.assertEqual(self.joined([bare(0, EIGHTH), bare(12, EIGHTH), bare(24, EIGHTH)], [(0, 12), (12, 36)]),
                         [False, True, False])

    def test_what_else_is_told_doesnt_count(self):
        for truths in itertools.product([False, True], repeat=4):
            tied = bare(0, EIGHTH, [C4], truths[0], truths[1], "la", truths[2], truths[3])
            self.assertEqual(self.joined([tied, bare(12, EIGHTH, [E4])]), [True, False])
            self.assertEqual(self.joined([bare(0, EIGHTH), ("tones", 12) + tied[2:]]), [True, False])

    def test_bares_that_begin_late(self):
        self.assertEqual(self.joined([bare(60, SIXTEENTH), bare(66, SIXTEENTH)]), [True, False])
        self.assertEqual(self.joined([bare(60, EIGHTH), bare(72, SIXTEENTH), bare(78, SIXTEENTH)]), [False, True, False])

    def test_many(self):
        chance = random.Random(53)
        for case in range(60):
            tune = fine_tune(chance, chance.choice(FINE_LENGTHS))
            for frame, bar in zip(tune.frames(), bare_bars(tune)):
                pairs = beats(frame[1])
                for bares in bar:
                    self.assertEqual(self.joined(bares, pairs), self.by_the_words(bares, pairs))

    def by_the_words(self, bares, pairs):
        told = [False for one in bares]
        for begin, end in pairs:
            here = [number for number, one in enumerate(bares)
                    if one[0] == "tones" and begin <= one[1] < end and one[3][0] in (8, 16, 32)]
            for number in here:
                told[number] = number + 1 in here
        return told


if __name__ == "__main__":
    unittest.main()

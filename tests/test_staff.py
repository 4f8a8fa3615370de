import copy
import random
import unittest

from barwright.errors import TooFine, TuneError
from barwright.lengths import piece_grains
from barwright.marks import leans_for
from barwright.metres import bar_grains, beats, metre_of
from barwright.reading import read_tune, told_in
from barwright.setting import bare_bars, beamed
from barwright.signs import Note, Pause, Whole, sign_of
from barwright.staff import Bar, hear, set_bars
from barwright.tunes import Tune
from samples import (
    C4, E4, FEW_LINES, FINE_LENGTHS, FOUR, G4, SIX, THREE, everything, chance_tune, fine_tune, rest, tones)


def made(key, metre, *voices):
    """A bar of voices that are written as words."""
    length = bar_grains(metre_of(metre))
    return Bar(key, metre_of(metre), [[sign_of(word, length) for word in words.split()] for words in voices])


def words_in(bar):
    return [" ".join(sign.written() for sign in signs) for signs in bar.voices]


def sounds(*rows):
    return [told_in(row) for row in rows]


def all_told(bars):
    return copy.deepcopy([bar.told() for bar in bars])


class TestBar(unittest.TestCase):
    def test_values(self):
        bar = Bar(-3, (7, 8, (3, 2, 2)), [[Whole(84)], [Pause((2, 2, False))]])
        self.assertEqual((bar.key, bar.metre), (-3, (7, 8, (3, 2, 2))))
        self.assertIs(bar.voices.__class__, list)
        self.assertEqual([[sign.told() for sign in signs] for signs in bar.voices],
                         [[("whole", 84)], [("pause", (2, 2, False))]])
        self.assertEqual([[sign.__class__ for sign in signs] for signs in bar.voices], [[Whole], [Pause]])

    def test_told(self):
        note = Note([("+", 0, 4), ("", 2, 4)], (8, 0, True), True, False, "la", True, False)
        bar = Bar(2, FOUR, [[note, Pause((4, 0, True)), Pause((2, 1, False))], [Whole(96)]])
        told = bar.told()
        self.assertEqual(told, (2, FOUR, [
            [("note", [("+", 0, 4), ("", 2, 4)], (8, 0, True), True, False, "la", True, False),
             ("pause", (4, 0, True)), ("pause", (2, 1, False))],
            [("whole", 96)]]))
        self.assertEqual([told.__class__, told[2].__class__, told[2][0].__class__], [tuple, list, list])

    def test_one_voice(self):
        self.assertEqual(Bar(0, FOUR, [[Whole(96)]]).told(), (0, FOUR, [[("whole", 96)]]))

    def test_each_value_of_a_note_stays(self):
        for truths in ((True, False, False, False), (False, True, False, False), (False, False, True, False),
                       (False, False, False, True)):
            note = Note([("", 0, 4)], (8, 1, False), truths[0], truths[1], "x", truths[2], truths[3])
            bar = Bar(0, FOUR, [[note]])
            self.assertEqual(bar.told()[2], [[note.told()]])
            self.assertEqual(bar.voices[0][0].written(), note.written())

    def test_changed_lists_change_no_bar(self):
        note = Note([("+", 0, 4)], (1, 0, False), False, False, "la", False, False)
        voices = [[note], [Whole(96)]]
        bar = Bar(0, FOUR, voices)
        before = copy.deepcopy(bar.told())
        voices[0].append(Pause((4, 0, False)))
        voices[1].clear()
        voices.pop()
        self.assertEqual(bar.told(), before)
        note.heads.clear()
        self.assertEqual(bar.told(), before)
        told = bar.told()
        told[2][0][0][1].append(("", 6, 4))
        told[2][1].clear()
        told[2].reverse()
        self.assertEqual(bar.told(), before)
        self.assertEqual(words_in(bar), ["c+4/1:la", "R"])

    def test_what_is_handed_in_stays(self):
        note = Note([("+", 0, 4)], (1, 0, False), True, True, "la", True, True)
        rest_of_all = Pause((4, 0, False))
        voices = [[note], [rest_of_all]]
        Bar(0, FOUR, voices)
        self.assertEqual(voices, [[note], [rest_of_all]])
        self.assertEqual(note.written(), "c+4/1~_():la")


class TestSetBars(unittest.TestCase):
    def set(self, text, *bars):
        """The bars of a tune's text, as (key, metre, words of each voice)."""
        tune = read_tune(text)
        before = everything(tune)
        told = set_bars(tune)
        self.assertEqual(everything(tune), before)
        self.assertEqual([(bar.key, bar.metre, words_in(bar)) for bar in told],
                         [(key, metre_of(metre), voices) for key, metre, *voices in bars])
        self.assertEqual(hear(told), [tune.sounds_told(voice + 1) for voice in range(tune.many())])

    def test_one_voice(self):
        self.set("metre 4/4\nkey 0\nvoice\nc4 1/4 la\nd4,f4 3/4", (0, "4/4", "c4/4:la d4,f4/2."))

    def test_keys_and_metres_of_each_bar(self):
        self.set("metre 4/4\nkey 0\nat 2 key -3\nat 3 metre 3/4\nat 4 metre 6/8\nat 4 key 2\nvoice\n"
                 "e4 1\ne4 1\ne4 3/4\nf+4 3/4",
                 (0, "4/4", "e4/1"), (-3, "4/4", "e=4/1"), (-3, "3/4", "e=4/2."), (2, "6/8", "f4/2."))

    def test_marks_begin_anew_in_each_bar(self):
        self.set("metre 2/4\nkey 0\nvoice\nc+4 1/4\nc+4 1/4\nc+4 1/4\nc4 1/4\nc4 1/2",
                 (0, "2/4", "c+4/4 c4/4"), (0, "2/4", "c+4/4 c=4/4"), (0, "2/4", "c4/2"))

    def test_ties(self):
        self.set("metre 2/4\nkey 0\nvoice\nc+4 1/8\ne-4,g4 3/8 la\nc+4 9/8 lo\nc+4 3/8",
                 (0, "2/4", "c+4/8_ e-4,g4/8~:la e4,g4/4"), (0, "2/4", "c+4/2~:lo"), (0, "2/4", "c4/2~"),
                 (0, "2/4", "c4/8_ c+4/8~ c4/4"))

    def test_a_key_that_changes_under_a_tie(self):
        self.set("metre 2/4\nkey 0\nat 2 key 4\nvoice\nf4 3/4\nf4 1/4\nf+4 1/2",
                 (0, "2/4", "f4/2~"), (4, "2/4", "f4/4 f=4/4"), (4, "2/4", "f4/2"))

    def test_both_voices_stand_on_one_staff(self):
        self.set("metre 2/4\nkey 1\nvoice\nf4 1/4\nf+4 1/4\nvoice\nr 1/8\nf4 1/8\nf4 1/8\nf+4 1/8",
                 (1, "2/4", "f=4/4 f+4/4", "r/8 f4/8 f=4/8_ f+4/8"))
        self.set("metre 2/4\nkey 1\nvoice\nf+4 1/2\nvoice\nf4 1/4\nf+4 1/4", (1, "2/4", "f4/2", "f=4/4 f+4/4"))
        self.set("metre 2/4\nkey 1\nvoice\nf4 1/4\nf+4 1/4\nvoice\nf+4 1/2", (1, "2/4", "f=4/4 f4/4", "f+4/2"))

    def test_rests(self):
        self.set("metre 3/4\nkey 0\nvoice\nr 5/4\nc4 1/8\nvoice\nc4 1/8",
                 (0, "3/4", "R", "c4/8 r/8 r/2"), (0, "3/4", "r/2 c4/8 r/8", "R"))

    def test_beams(self):
        self.set("metre 6/8\nkey 0\nvoice\nc4 1/8\nd4 1/8\ne4 1/8\nf4 1/16\nf4 1/16\nr 1/8\ng4 1/8",
                 (0, "6/8", "c4/8_ d4/8_ e4/8 f4/16_ f4/16 r/8 g4/8"))
        self.set("metre 3/4\nkey 0\nvoice\nc4 1/8\nd4 1/8\ne4 1/8\nf4 1/16\nf4 1/16\nr 1/8\ng4 1/8",
                 (0, "3/4", "c4/8_ d4/8 e4/8_ f4/16_ f4/16 r/8 g4/8"))

    def test_beams_of_each_voice_by_itself(self):
        self.set("metre 2/4\nkey 0\nvoice\nc4 1/8\nd4 1/8\ne4 1/4\nvoice\nc4 1/4\nd4 1/8\ne4 1/8",
                 (0, "2/4", "c4/8_ d4/8 e4/4", "c4/4 d4/8_ e4/8"))

    def test_slurs_and_words_at_the_first_of_tied_notes(self):
        self.set("metre 2/4\nkey 0\nvoice\nc4 3/4 ( la\nd4 1/2 ( ) lo\ne4 1/4 )",
                 (0, "2/4", "c4/2~(:la"), (0, "2/4", "c4/4 d4/4~():lo"), (0, "2/4", "d4/4 e4/4)"))

    def test_threes_in_one_voice(self):
        self.set("metre 2/4\nkey 0\nvoice\nc4 1/12\nd4 1/6\ne4 1/4\nvoice\nc4 1/8\nd4 1/4\ne4 1/8",
                 (0, "2/4", "c4/8' d4/4' e4/4", "c4/8_ d4/8~ d4/8_ e4/8"))

    def test_told_as_the_bares_are(self):
        chance = random.Random(62)
        for lengths in FINE_LENGTHS:
            for case in range(12):
                tune = fine_tune(chance, lengths, FEW_LINES)
                bars = set_bars(tune)
                self.assertEqual([bar.__class__ for bar in bars], [Bar] * len(tune.frames()))
                for frame, bar, voices in zip(tune.frames(), bars, bare_bars(tune)):
                    self.assertEqual((bar.metre, bar.key), frame[1:])
                    for signs, bares in zip(bar.voices, voices):
                        self.told_alike(signs, bares, beamed(bares, beats(frame[1])))
                    self.heard_alike(bar, voices)

    def told_alike(self, signs, bares, joined):
        self.assertEqual(len(signs), len(bares))
        for sign, bare, is_joined in zip(signs, bares, joined):
            told = sign.told()
            if bare[0] == "whole":
                self.assertEqual(told, bare)
            elif bare[0] == "rest":
                self.assertEqual(told, ("pause", bare[2]))
            else:
                self.assertEqual(told[2:], (bare[3], bare[5], is_joined) + bare[6:])
                self.assertEqual([head[1:] for head in told[1]], [(pitch[0], pitch[2]) for pitch in bare[2]])
                if bare[4]:
                    self.assertEqual([head[0] for head in told[1]], [""] * len(bare[2]))

    def heard_alike(self, bar, voices):
        pairs = [(number, sign, bare) for number, (signs, bares) in enumerate(zip(bar.voices, voices))
                 for sign, bare in zip(signs, bares) if bare[0] == "tones"]
        rows = [(bare[1], number, sign.heads, bare[2] if bare[4] else None) for number, sign, bare in pairs]
        self.assertEqual(leans_for(bar.key, rows), [bare[2] for number, sign, bare in pairs])

    def refused(self, bar, voice, voices, metres=((1, FOUR),)):
        tune = Tune(list(metres), [(1, 0)], voices)
        with self.assertRaises(TuneError) as caught:
            set_bars(tune)
        self.assertIs(caught.exception.__class__, TooFine)
        self.assertEqual((caught.exception.bar, caught.exception.voice), (bar, voice))
        self.assertEqual([caught.exception.bar.__class__, caught.exception.voice.__class__], [int, int])

    def test_too_fine(self):
        bad = [tones(length=96), tones(length=5), tones(length=91)]
        good = [tones(length=96)] * 3
        self.refused(1, 1, [[tones(length=5)]])
        self.refused(2, 1, [bad])
        self.refused(2, 1, [bad, good])
        self.refused(2, 2, [good, bad])
        self.refused(2, 1, [bad, bad])
        self.refused(3, 2, [good, [tones(length=96), tones(length=96), tones(length=95)]])
        self.refused(2, 1, [[tones(length=72)] + [tones(length=8)] * 9], [(1, THREE), (2, SIX)])

    def test_too_fine_just_where_a_beat_cant_be_written(self):
        chance = random.Random(620)
        seen = {True: 0, False: 0}
        for case in range(150):
            tune = chance_tune(chance, chance.choice(FINE_LENGTHS))
            try:
                set_bars(tune)
            except TooFine:
                seen[False] += 1
            else:
                seen[True] += 1
        self.assertGreater(min(seen.values()), 30)

    def test_told_bars_are_the_askers_own(self):
        tune = Tune([(1, FOUR)], [(1, 0)], [[tones([C4, E4], 204, "la"), rest(84), tones([G4], 96)], [rest(96), tones()]])
        before = everything(tune)
        one = set_bars(tune)
        told = all_told(one)
        other = set_bars(tune)
        one[0].voices[0][0].heads.clear()
        one[1].voices[0].clear()
        one[1].voices.pop()
        one[2].told()[2].clear()
        one.pop()
        self.assertEqual(all_told(other), told)
        self.assertEqual(all_told(set_bars(tune)), told)
        self.assertEqual(everything(tune), before)


class TestHear(unittest.TestCase):
    def heard(self, bars, *voices):
        before = all_told(bars)
        self.assertEqual(hear(bars), [sounds(*rows) for rows in voices])
        self.assertEqual(all_told(bars), before)

    def test_one_bar(self):
        self.heard([made(0, "4/4", "c4/4:la d4,f+4/4( r/4 g4/4)")], ["c4 1/4 la", "d4,f+4 1/4 (", "r 1/4", "g4 1/4 )"])

    def test_two_voices(self):
        self.heard([made(0, "2/4", "c4/4 d4/4", "r/8 e4/8. f4/16 r/8")],
                   ["c4 1/4", "d4 1/4"], ["r 1/8", "e4 3/16", "f4 1/16"])

    def test_each_with_its_own_key(self):
        self.heard([made(1, "1/4", "f4/4"), made(-7, "1/4", "f4/4"), made(0, "1/4", "f4/4"), made(7, "1/4", "f4/4")],
                   ["f+4 1/4", "f-4 1/4", "f4 1/4", "f+4 1/4"])

    def test_marks_count_up_to_a_bars_end(self):
        self.heard([made(0, "2/4", "c+4/4 c4/4"), made(0, "2/4", "c4/4 c-4/4"), made(0, "2/4", "c4/2")],
                   ["c+4 1/4", "c+4 1/4", "c4 1/4", "c-4 1/4", "c4 1/2"])

    def test_marks_count_for_both_voices(self):
        self.heard([made(0, "2/4", "c+4/4 c4/4", "c4/8 c=4/8 c4/8 c-4/8")],
                   ["c+4 1/4", "c4 1/4"], ["c+4 1/8", "c4 1/8", "c4 1/8", "c-4 1/8"])
        self.heard([made(0, "2/4", "c4/4 c4/4", "c+4/4 c--4/4")], ["c4 1/4", "c+4 1/4"], ["c+4 1/4", "c--4 1/4"])

    def test_marks_that_no_tune_wants(self):
        self.heard([made(2, "2/4", "f+4,c=5/4 f+4,c=5/4"), made(2, "2/4", "f=4/8 f=4/8 g=4,a4/4")],
                   ["f+4,c5 1/4", "f+4,c5 1/4", "f4 1/8", "f4 1/8", "g4,a4 1/4"])

    def test_ties_in_one_bar(self):
        self.heard([made(0, "2/4", "c+4/8~_:la c4/8~ c4/8 c4/8")], ["c+4 3/8 la", "c+4 1/8"])

    def test_ties_through_one_bar_and_several(self):
        self.heard([made(0, "2/4", "c4/4 c+4,e4/4~(:la"), made(0, "2/4", "c4,e4/2~"), made(0, "2/4", "c4,e4/2~"),
                    made(0, "2/4", "c4,e4/8 c4/8) r/4")],
                   ["c4 1/4", "c+4,e4 11/8 ( la", "c4 1/8 )"])

    def test_a_tie_ends_just_at_a_bars_end(self):
        self.heard([made(0, "1/4", "c+4/4~"), made(0, "1/4", "c4/4"), made(0, "1/4", "c4/4")], ["c+4 1/2", "c4 1/4"])

    def test_a_note_that_comes_changes_nothing(self):
        self.heard([made(0, "1/4", "c+4/4~", "R"), made(0, "2/4", "c4/4 c4/4", "c4/8 c-4/8 c4/4")],
                   ["c+4 1/2", "c-4 1/4"], ["r 1/4", "c4 1/8", "c-4 1/8", "c-4 1/4"])

    def test_a_note_that_comes_where_another_mark_counts(self):
        self.heard([made(0, "2/4", "c+4/4~ c4/4", "r/8 c-4/8 c4/4")], ["c+4 1/2"], ["r 1/8", "c-4 1/8", "c-4 1/4"])

    def test_heard_by_what_is_played_ahead(self):
        ahead = made(0, "1/4", "c+4/4~")
        other = made(0, "1/4", "c-4/4~")
        plain = made(0, "1/4", "c-4/4")
        last = made(0, "1/4", "c4/4")
        self.heard([ahead, last], ["c+4 1/2"])
        self.heard([other, last], ["c-4 1/2"])
        self.heard([plain, last], ["c-4 1/4", "c4 1/4"])
        self.heard([last, ahead, last, last, other, last], ["c4 1/4", "c+4 1/2", "c4 1/4", "c-4 1/2"])

    def test_like_notes_that_are_not_tied_stay_apart(self):
        self.heard([made(0, "2/4", "c4/4_ c4/4"), made(0, "2/4", "c4/2")], ["c4 1/4", "c4 1/4", "c4 1/2"])

    def test_the_first_notes_word_and_slurs_count(self):
        self.heard([made(0, "2/4", "c4/8~():la c4/8~(:lo c4/8):lu c4/8")], ["c4 3/8 ( ) la", "c4 1/8"])
        self.heard([made(0, "2/4", "c4/8~ c4/8():la c4/4")], ["c4 1/4", "c4 1/4"])

    def test_a_tie_of_one_voice_alone(self):
        self.heard([made(0, "1/4", "c+4/4~", "c+4/4"), made(0, "1/4", "c4/4", "c4/4")],
                   ["c+4 1/2"], ["c+4 1/4", "c4 1/4"])
        self.heard([made(0, "1/4", "c+4/4", "c4/4~"), made(0, "1/4", "c4/4", "c4/4")],
                   ["c+4 1/4", "c4 1/4"], ["c+4 1/2"])

    def test_rests_side_by_side_are_one(self):
        self.heard([made(0, "2/4", "r/8 r/8 r/16' r/8' r/8' r/16'"), made(0, "2/4", "R"), made(0, "2/4", "r/4 c4/4")],
                   ["r 5/4", "c4 1/4"])

    def test_rests_at_a_voices_end_go(self):
        self.heard([made(0, "2/4", "c4/4 r/4"), made(0, "2/4", "R"), made(0, "2/4", "r/4 r/4")], ["c4 1/4"])

    def test_a_voice_that_only_rests(self):
        self.heard([made(0, "2/4", "R")], [])
        self.heard([made(0, "2/4", "r/4 r/4", "c4/4 r/4"), made(0, "2/4", "R", "R")], [], ["c4 1/4"])

    def test_bars_of_unlike_metres(self):
        self.heard([made(0, "1/8", "c+4/8~"), made(-2, "7/8:3+2+2", "c4/2.."), made(-2, "2/2", "b4/1")],
                   ["c+4 1", "b-4 1"])

    def test_long_sounds_are_not_refused(self):
        long = [made(0, "8/4", "c4/1~ c4/1~")] * 30 + [made(0, "8/4", "c4/1 r/1")] + [made(0, "8/4", "R")] * 30
        self.assertEqual(hear(long + [made(0, "8/4", "r/1 c4/1")]),
                         [[("tones", [C4], 61 * 96, "", False, False), ("rest", 62 * 96), ("tones", [C4], 96, "", False, False)]])

    def test_a_tunes_bars(self):
        chance = random.Random(63)
        for lines in (FEW_LINES, range(63)):
            for lengths in FINE_LENGTHS:
                for case in range(12):
                    tune = fine_tune(chance, lengths, lines)
                    bars = set_bars(tune)
                    before = all_told(bars)
                    self.assertEqual(hear(bars), [tune.sounds_told(voice + 1) for voice in range(tune.many())])
                    self.assertEqual(all_told(bars), before)

    def test_by_hand_as_by_the_words(self):
        chance = random.Random(630)
        for case in range(150):
            bars = self.chance_bars(chance)
            self.assertEqual(hear(bars), heard_by_the_words(bars))

    def chance_bars(self, chance):
        """Bars of quarter and eighth notes on few lines, with ties, and marks at will."""
        many = chance.randint(1, 2)
        tied = [None] * many
        bars = []
        for number in range(chance.randint(1, 5)):
            voices = []
            for voice in range(many):
                signs = []
                for place in range(4):
                    sign = self.chance_sign(chance, tied[voice])
                    tied[voice] = sign.heads if isinstance(sign, Note) and sign.is_tied else None
                    signs.append(sign)
                voices.append(signs)
            bars.append(Bar(chance.randint(-7, 7), (2, 4, ()), voices))
        last = [[self.chance_sign(chance, heads, False)] for heads in tied]
        return bars + [Bar(chance.randint(-7, 7), (1, 8, ()), last)]

    def chance_sign(self, chance, tied, may_tie=True):
        if tied is None and chance.randint(0, 3) == 0:
            return Pause((8, 0, False))
        lines = sorted(chance.sample(range(28, 33), chance.randint(1, 3)))
        heads = [(chance.choice(["", "", "=", "+", "++", "-", "--"]), line % 7, line // 7) for line in lines]
        if tied is not None:
            heads = [("", step, octave) for mark, step, octave in tied]
        is_tied = may_tie and chance.randint(0, 2) == 0
        return Note(heads, (8, 0, False), is_tied, chance.randint(0, 1) == 0, chance.choice(["", "la"]),
                    chance.randint(0, 1) == 0, chance.randint(0, 1) == 0)

    def test_told_lists_are_the_askers_own(self):
        bars = [made(0, "2/4", "c+4,e4/4~ c4,e4/4", "R"), made(0, "2/4", "c4/2", "c4/2")]
        before = all_told(bars)
        told = hear(bars)
        again = copy.deepcopy(told)
        told[0][0][1].clear()
        told[0].clear()
        told.pop()
        self.assertEqual(hear(bars), again)
        self.assertEqual(all_told(bars), before)

    def test_kinds(self):
        told = hear([made(0, "2/4", "c+4,e4/4~ c4,e4/8( r/8", "R")])
        self.assertEqual([told.__class__, told[0].__class__, told[0][0].__class__, told[0][0][1].__class__],
                         [list, list, tuple, list])
        self.assertEqual([told[0][0][4].__class__, told[0][0][5].__class__], [bool, bool])


def heard_by_the_words(bars):
    """Goes through each bar by times, all voices together, and keeps the pitches that sound."""
    leans = {"--": -2, "-": -1, "=": 0, "+": 1, "++": 2}
    voices = [[] for signs in bars[0].voices]
    tied = [False] * len(voices)
    for bar in bars:
        put = {}
        begins = []
        for voice, signs in enumerate(bar.voices):
            at = 0
            for sign in signs:
                begins.append((at, voice, sign))
                at += piece_grains(sign.piece)
        for at, voice, sign in sorted(begins, key=lambda begin: begin[:2]):
            grains = piece_grains(sign.piece)
            heard = voices[voice]
            if isinstance(sign, Pause):
                if heard and heard[-1][0] == "rest":
                    grains += heard.pop()[1]
                heard.append(("rest", grains))
            elif tied[voice]:
                last = heard.pop()
                heard.append(last[:2] + (last[2] + grains,) + last[3:])
            else:
                pitches = []
                for mark, step, octave in sign.heads:
                    if mark:
                        put[step, octave] = leans[mark]
                    by_key = [lean for lean in (-1, 0, 1) if -1 <= fifths_of(step, lean) - bar.key <= 5][0]
                    pitches.append((step, put.get((step, octave), by_key), octave))
                heard.append(("tones", pitches, grains, sign.word, sign.opens, sign.closes))
            tied[voice] = isinstance(sign, Note) and sign.is_tied
    return [heard[:-1] if heard and heard[-1][0] == "rest" else heard for heard in voices]


def fifths_of(step, lean):
    return "fcgdaeb".index("cdefgab"[step]) - 1 + 7 * lean


if __name__ == "__main__":
    unittest.main()

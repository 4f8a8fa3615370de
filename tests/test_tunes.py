import copy
import random
import re
import unittest

from barwright.errors import BadTune, TuneError
from barwright.metres import bar_grains
from barwright.tunes import Rest, Tones, Tune
from oddments import Unfriendly, no_numbers
from samples import ALL_METRES, C4, E4, FOUR, G4, SIX, THREE, everything, rest, tones

SIX_GROUPED = (6, 8, (3, 3))
EIGHTH = (1, 8, ())
LONG = (4, 2, ())
METRES = [(1, FOUR)]
KEYS = [(1, 0)]


def lasting(grains):
    """A voice of tones of so many grains in all."""
    sounds = []
    while grains > 0:
        length = grains if grains <= 384 else 382
        sounds.append(tones(length=length))
        grains -= length
    return sounds


class TuneCase(unittest.TestCase):
    def tune(self, voices, metres=METRES, keys=KEYS):
        return Tune(metres, keys, voices)

    def refused(self, voices, metres=METRES, keys=KEYS):
        with self.assertRaises(TuneError) as caught:
            self.tune(voices, metres, keys)
        self.assertIs(caught.exception.__class__, BadTune)

    def kept(self, voice):
        """The voice as it is kept, alone and as the second one of two."""
        told = self.tune([voice]).sounds_told(1)
        self.assertEqual(self.tune([[tones()], voice]).sounds_told(2), told)
        return told

    def voice_refused(self, voice):
        self.refused([voice])
        self.refused([[tones()], voice])
        self.refused([voice, [tones()]])


class TestVoices(TuneCase):
    def test_how_many_sounds(self):
        for many in (1, 2, 95, 96):
            voice = [tones(length=12)] * many
            self.assertEqual(self.kept(voice), voice)
        self.voice_refused([])
        self.voice_refused([tones(length=2)] * 97)
        self.voice_refused([tones(length=2)] * 1000)

    def test_how_many_count_as_they_are_handed_in(self):
        self.assertEqual(self.kept([tones()] + [rest(2)] * 95), [tones()])
        self.voice_refused([tones()] + [rest(2)] * 96)

    def test_rests_side_by_side_are_one(self):
        self.assertEqual(self.kept([rest(24), rest(12), tones()]), [rest(36), tones()])
        self.assertEqual(self.kept([tones(), rest(2), rest(2), rest(2), tones()]), [tones(), rest(6), tones()])
        self.assertEqual(
            self.kept([rest(4), rest(8), tones(), rest(6), tones(), tones(), rest(2), rest(20), tones()]),
            [rest(12), tones(), rest(6), tones(), tones(), rest(22), tones()])

    def test_rests_side_by_side_up_to_a_bound(self):
        # Bars of 192 grains, 24 of them, hold 4608 grains: no tone has room behind such a rest.
        for rests in ([4608], [4606, 2], [2304, 2304], [48] * 94 + [96]):
            self.assertEqual(sum(rests), 4608)
            self.assertEqual(self.kept([tones()] + [rest(length) for length in rests]), [tones()])
        self.voice_refused([tones(), rest(4608), rest(2)])
        self.voice_refused([tones(), rest(2304), rest(2305)])
        self.voice_refused([tones()] + [rest(49)] * 95)
        self.voice_refused([tones(), rest(4608), rest(4608)])
        self.voice_refused([rest(4608), rest(2), tones()])

    def test_long_rests_ahead_of_a_tone(self):
        metres = [(1, LONG)]
        voice = [rest(4000), rest(584), tones(length=24)]
        self.assertEqual(self.tune([voice], metres).sounds_told(1), [rest(4584), tones(length=24)])
        self.refused([[rest(4000), rest(585), tones(length=24)]], metres)

    def test_a_rest_at_the_end_goes(self):
        self.assertEqual(self.kept([tones(), rest(24)]), [tones()])
        self.assertEqual(self.kept([tones(), rest(24), rest(12), rest(2)]), [tones()])
        self.assertEqual(self.kept([rest(24), tones(), rest(24)]), [rest(24), tones()])
        self.assertEqual(self.kept([tones(), rest(3), tones(), rest(4000)]), [tones(), rest(3), tones()])

    def test_a_voice_of_rests_alone(self):
        self.voice_refused([rest(24)])
        self.voice_refused([rest(24), rest(24)])
        self.voice_refused([rest(2)] * 96)

    def test_tones_side_by_side_stay(self):
        voice = [tones(), tones(), tones([C4, E4]), tones()]
        self.assertEqual(self.kept(voice), voice)

    def test_each_sound_is_looked_at(self):
        for bad in (rest(1), rest(4609), tones(length=385), tones([]), tones([E4, C4]), tones(word="a b"), None,
                    ["rest", 24], Rest(24), Tones([C4], 24, "", False, False), "r 1/4"):
            self.voice_refused([bad])
            self.voice_refused([bad, tones()])
            self.voice_refused([tones(), bad])
            self.voice_refused([tones(), bad, tones()])


class TestSlurs(TuneCase):
    def voice(self, signs):
        """One tone a sign: "(" opens, ")" closes, "x" both, "." neither; "r" a rest."""
        return [rest(12) if sign == "r" else tones(length=12, opens=sign in "(x", closes=sign in ")x")
                for sign in signs]

    def test_good_ones(self):
        for signs in ("()", "(.)", "(..).", ".(.).", "(x)", "(xx)", "(.x.)", "()()", "(r)", "(rr.r)", "r(r)r", "(xr)",
                      "(rx)", ".", "...", "(" + "." * 94 + ")", "()" * 48, "(" + "x" * 94 + ")"):
            kept = self.kept(self.voice(signs))
            self.assertEqual([told for told in kept if told[0] == "tones"],
                             [told for told in self.voice(signs) if told[0] == "tones"])

    def test_bad_ones(self):
        for signs in (")", "(", "x", ".)", "(.", "((", "(()", "(())", "())", "().)", ".x", "x)", "(x", "(xx", "x.)",
                      "()x", "()x)", "(.(.)", "(r", "r)", "(.r", "(r(r)", "()r)", "(rr", "x" * 4, "(x)x)"):
            self.voice_refused(self.voice(signs))

    def test_all_short_ones(self):
        for many in range(1, 6):
            for number in range(5 ** many):
                signs = "".join("().xr"[number // 5 ** place % 5] for place in range(many))
                if self.are_good(signs):
                    self.tune([self.voice(signs)])
                else:
                    self.refused([self.voice(signs)])

    def are_good(self, signs):
        # Each slur from its begin to its end, with what opens and closes at once within.
        return re.fullmatch(r"(\.|\([.x]*\))+", signs.replace("r", "")) is not None

    def test_each_voice_by_itself(self):
        self.refused([self.voice("("), self.voice(")")])
        self.tune([self.voice("()"), self.voice("..()")])


class TestChanges(TuneCase):
    long = [lasting(96 * 10)]

    def test_ordinary(self):
        metres = [(1, FOUR), (2, THREE), (4, SIX), (5, SIX_GROUPED), (6, SIX)]
        keys = [(1, -7), (2, 0), (3, 7), (4, 0)]
        tune = self.tune(self.long, metres, keys)
        self.assertEqual(tune.metres_told(), metres)
        self.assertEqual(tune.keys_told(), keys)

    def test_that_dont_begin_at_bar_one(self):
        for bar in (0, 2, -1, 24, 10 ** 50):
            self.refused(self.long, metres=[(bar, FOUR)])
            self.refused(self.long, keys=[(bar, 0)])
            self.refused(self.long, metres=[(bar, FOUR), (3, THREE)])
            self.refused(self.long, keys=[(bar, 0), (3, 1)])
        self.refused(self.long, metres=[(0, FOUR), (1, THREE)])
        self.refused(self.long, keys=[(0, 1), (1, 0)])

    def test_none_at_all(self):
        self.refused(self.long, metres=[])
        self.refused(self.long, keys=[])

    def test_whose_bars_dont_rise(self):
        for bars in ((1, 1), (1, 2, 2), (1, 3, 2), (1, 1, 2), (1, 0), (1, -1), (1, 2, 1), (1, 2, 4, 3)):
            self.refused(self.long, metres=[(bar, (FOUR, THREE)[place % 2]) for place, bar in enumerate(bars)])
            self.refused(self.long, keys=[(bar, place % 2) for place, bar in enumerate(bars)])

    def test_whose_neighbours_are_alike(self):
        self.refused(self.long, metres=[(1, FOUR), (2, FOUR)])
        self.refused(self.long, metres=[(1, THREE), (2, FOUR), (5, FOUR)])
        self.refused(self.long, metres=[(1, SIX_GROUPED), (2, (6, 8, (3, 3)))])
        self.refused(self.long, keys=[(1, 3), (2, 3)])
        self.refused(self.long, keys=[(1, 0), (2, 1), (3, 1)])
        self.tune(self.long, metres=[(1, SIX), (2, SIX_GROUPED)])
        self.tune(self.long, metres=[(1, FOUR), (2, (2, 2, ())), (3, FOUR)])
        self.tune(self.long, keys=[(1, 0), (2, 1), (3, 0)])

    def test_that_are_none(self):
        for metre in ((0, 4, ()), (13, 8, ()), (9, 4, ()), (4, 16, ()), (4, 4, (2, 3)), (4, 4, []), (4, 4), [4, 4, ()],
                      "4/4", None, 4, (True, 4, ())):
            self.refused(self.long, metres=[(1, metre)])
            self.refused(self.long, metres=[(1, FOUR), (2, metre)])
        for key in (-8, 8, True, False, None, "0", 0.0, [0], (0,), 10 ** 50):
            self.refused(self.long, keys=[(1, key)])
            self.refused(self.long, keys=[(1, 2), (2, key)])

    def test_of_another_form(self):
        for good, name in (((1, FOUR), "metres"), ((1, 0), "keys")):
            other = (2, THREE) if name == "metres" else (2, 1)
            for thing in (good, (good,), [list(good)], [good[1]], [good + good], [good + (0,)], [good[:1]], [()], [[]],
                          {good: other}, {good}, {1: good[1]}, [(True, good[1])], [("1", good[1])], [(1.0, good[1])],
                          [good, None], [good, list(other)], [good, (True,) + other[1:]], [good, (2.0,) + other[1:]],
                          [good, ("2",) + other[1:]], [good, other + (0,)], [good, ()], [[good]], "", "1", 1, None,
                          range(3), iter([good]), Unfriendly(), [Unfriendly()], [(Unfriendly(), good[1])],
                          [(1, Unfriendly())]):
                self.refused(self.long, **{name: thing})


class TestBars(TuneCase):
    def test_of_24_and_of_25(self):
        for metre in (FOUR, THREE, SIX, EIGHTH, (7, 8, (3, 2, 2))):
            bar = bar_grains(metre)
            self.assertEqual(len(self.tune([lasting(24 * bar)], [(1, metre)]).frames()), 24)
            self.assertEqual(len(self.tune([lasting(23 * bar + 2)], [(1, metre)]).frames()), 24)
            self.assertEqual(len(self.tune([lasting(23 * bar)], [(1, metre)]).frames()), 23)
            self.refused([lasting(24 * bar + 2)], [(1, metre)])
            self.refused([lasting(25 * bar)], [(1, metre)])

    def test_just_one_grain_more(self):
        self.assertEqual(len(self.tune([[tones(length=96)]]).frames()), 1)
        self.assertEqual(len(self.tune([[tones(length=97)]]).frames()), 2)
        self.assertEqual(len(self.tune([[tones(length=2)]]).frames()), 1)
        self.refused([[rest(24 * 96 - 4), tones(length=5)]])
        self.assertEqual(len(self.tune([[rest(24 * 96 - 5), tones(length=5)]]).frames()), 24)

    def test_rests_at_the_end_want_no_bars(self):
        self.assertEqual(len(self.tune([[tones(), rest(4608)]]).frames()), 1)
        self.assertEqual(len(self.tune([lasting(96 * 24) + [rest(4608)]]).frames()), 24)

    def test_the_longest_voice_counts(self):
        for voices in ([lasting(300), lasting(100)], [lasting(100), lasting(300)]):
            tune = self.tune(voices)
            self.assertEqual(tune.lasts(), 300)
            self.assertEqual(len(tune.frames()), 4)
        self.refused([lasting(96), lasting(96 * 24 + 2)])
        self.refused([lasting(96 * 24 + 2), lasting(96)])

    def test_a_change_at_the_last_bar_and_behind_it(self):
        for bars in (1, 2, 5, 23, 24):
            voices = [lasting(96 * bars)]
            if bars > 1:
                tune = self.tune(voices, metres=[(1, FOUR), (bars, (2, 2, ()))])
                self.assertEqual(tune.frames()[-1][1], (2, 2, ()))
                tune = self.tune(voices, keys=[(1, 0), (bars, 5)])
                self.assertEqual(tune.frames()[-1][2], 5)
            for bar in (bars + 1, bars + 2, 100, 10 ** 50):
                self.refused(voices, metres=[(1, FOUR), (bar, (2, 2, ()))])
                self.refused(voices, keys=[(1, 0), (bar, 5)])

    def test_rests_at_the_end_hold_no_change(self):
        self.refused([[tones(), rest(1000)]], keys=[(1, 0), (2, 1)])
        self.tune([[tones(), rest(1000), tones()]], keys=[(1, 0), (2, 1)])

    def test_a_change_that_makes_itself_stand_behind(self):
        # With a longer bar at 2 all is over by then, so nothing holds the change at 3.
        self.tune([lasting(72 * 3)], metres=[(1, THREE), (3, FOUR)])
        self.refused([lasting(72 * 3)], metres=[(1, THREE), (2, LONG), (3, FOUR)])
        self.refused([lasting(192)], metres=[(1, LONG), (2, FOUR)])

    def test_frames(self):
        tune = self.tune(
            [lasting(400)],
            metres=[(1, FOUR), (2, THREE), (4, (7, 8, (3, 2, 2))), (5, EIGHTH)], keys=[(1, 0), (3, -2), (4, 3)])
        self.assertEqual(tune.frames(), [
            (0, FOUR, 0), (96, THREE, 0), (168, THREE, -2), (240, (7, 8, (3, 2, 2)), 3), (324, EIGHTH, 3),
            (336, EIGHTH, 3), (348, EIGHTH, 3), (360, EIGHTH, 3), (372, EIGHTH, 3), (384, EIGHTH, 3), (396, EIGHTH, 3)])
        self.assertEqual(self.tune([[tones()]]).frames(), [(0, FOUR, 0)])

    def test_frames_of_many(self):
        chance = random.Random(32)
        for case in range(300):
            bars = chance.randint(1, 24)
            metres = [chance.choice(ALL_METRES)]
            keys = [chance.randint(-7, 7)]
            for bar in range(1, bars):
                metres.append(chance.choice([metres[-1], chance.choice(ALL_METRES)]))
                keys.append(chance.choice([keys[-1], chance.randint(-7, 7)]))
            begins = [sum(map(bar_grains, metres[:bar])) for bar in range(bars)]
            whole = sum(map(bar_grains, metres))
            length = chance.choice([begins[-1] + 2, whole, chance.randint(begins[-1] + 2, whole)])
            changes = [[(bar + 1, row[bar]) for bar in range(bars) if bar == 0 or row[bar] != row[bar - 1]]
                       for row in (metres, keys)]
            tune = Tune(changes[0], changes[1], [lasting(length)])
            self.assertEqual(tune.frames(), list(zip(begins, metres, keys)))
            self.assertEqual(tune.lasts(), length)
            self.assertEqual((tune.metres_told(), tune.keys_told()), tuple(changes))


class TestTune(TuneCase):
    def test_how_many_voices(self):
        self.assertEqual(self.tune([[tones()]]).many(), 1)
        self.assertEqual(self.tune([[tones()], [tones()]]).many(), 2)
        self.refused([])
        self.refused([[tones()]] * 3)
        self.refused([[tones()]] * 4)

    def test_voices_of_another_form(self):
        voice = [tones()]
        for thing in no_numbers() + [voice, tones(), [tones()], (voice,), [tuple(voice)], [[voice]], [voice, None],
                                     [None, voice], [voice, ()], [voice, tones()], {1: voice}, "voice", 1, (), "",
                                     [""], [iter(voice)], [{0: tones()}]]:
            self.refused(thing)

    def test_told(self):
        one = [rest(12), tones([C4, E4, G4], 36, "la", True, False), rest(48), tones([E4], 24, "", False, True)]
        other = [tones([G4], 96, "Ky-", False, False), tones([G4], 96)]
        tune = self.tune([one, other], keys=[(1, -3)])
        self.assertEqual(tune.sounds_told(1), one)
        self.assertEqual(tune.sounds_told(2), other)
        self.assertEqual(tune.lasts(), 192)
        self.assertEqual(tune.many(), 2)
        self.assertEqual(tune.metres_told(), [(1, FOUR)])
        self.assertEqual(tune.keys_told(), [(1, -3)])

    def test_a_voice_that_there_isnt_has_no_sounds(self):
        tune = self.tune([[tones()]])
        for voice in (0, -1, 2, 3):
            self.assertEqual(tune.sounds_told(voice), [])

    def test_lasts_without_rests_at_the_end(self):
        self.assertEqual(self.tune([[tones(length=24), rest(100)]]).lasts(), 24)
        self.assertEqual(self.tune([[rest(10), tones(length=24), rest(100)], [tones(length=30)]]).lasts(), 34)

    def test_tidy_is_told_as_tidy(self):
        tune = self.tune([[rest(12), rest(12), tones(), rest(2)]])
        again = Tune(tune.metres_told(), tune.keys_told(), [tune.sounds_told(1)])
        self.assertEqual(again.sounds_told(1), tune.sounds_told(1))
        self.assertEqual(again.frames(), tune.frames())

    def test_handed_in_lists_are_neither_changed_nor_kept(self):
        pitches = [C4, E4]
        voice = [rest(12), rest(12), ("tones", pitches, 200, "la", False, False), rest(24)]
        voices = [voice, [tones()]]
        metres = [(1, FOUR), (2, THREE)]
        keys = [(1, 0), (2, 1)]
        before = copy.deepcopy((metres, keys, voices))
        tune = Tune(metres, keys, voices)
        self.assertEqual((metres, keys, voices), before)
        told = everything(tune)
        pitches.append(G4)
        voice.clear()
        voices.pop()
        metres[1] = (2, SIX)
        metres.append((3, FOUR))
        keys.clear()
        self.assertEqual(everything(tune), told)

    def test_told_lists_are_the_askers_own(self):
        tune = self.tune([[tones([C4, E4], 100), tones()], [tones()]], [(1, FOUR), (2, THREE)], [(1, 0), (2, 1)])
        before = everything(tune)
        sounds = tune.sounds_told(1)
        sounds[0][1].append(G4)
        sounds[0][1][0] = G4
        sounds.clear()
        tune.metres_told().append((3, FOUR))
        tune.keys_told().clear()
        tune.frames()[0] = None
        tune.frames().pop()
        self.assertEqual(everything(tune), before)

    def test_what_was_told_stays(self):
        tune = self.tune([[tones([C4, E4], 100), tones()]])
        one = tune.sounds_told(1)
        other = tune.sounds_told(1)
        one[0][1].clear()
        self.assertEqual(other[0][1], [C4, E4])
        frames = tune.frames()
        tune.frames().clear()
        self.assertEqual(frames, [(0, FOUR, 0), (96, FOUR, 0)])

    def test_two_tunes_of_the_same_lists(self):
        voices = [[tones([C4, E4], 100), rest(24), rest(24), tones()]]
        one = self.tune(voices)
        one.sounds_told(1)[0][1].clear()
        other = self.tune(voices)
        self.assertEqual(one.sounds_told(1), other.sounds_told(1))


def places_in(thing):
    """The ways to all parts of a thing made of lists and tuples, and to itself."""
    ways = [()]
    if isinstance(thing, (list, tuple)):
        for place, part in enumerate(thing):
            ways += [(place,) + way for way in places_in(part)]
    return ways


def with_other(thing, way, other):
    if way == ():
        return other
    parts = list(thing)
    parts[way[0]] = with_other(thing[way[0]], way[1:], other)
    return parts if isinstance(thing, list) else tuple(parts)


def at(thing, way):
    for place in way:
        thing = thing[place]
    return thing


class TestAnything(TuneCase):
    metres = [(1, FOUR), (2, (7, 8, (3, 2, 2)))]
    keys = [(1, 0), (2, -3)]
    voices = [[tones([C4, E4], 48, "la", True, False), rest(24), tones([G4], 96, "", False, True)], [tones()]]

    def try_each(self, others_for):
        """Puts others in the place of each part, in turn; all of them have to be refused."""
        good = (self.metres, self.keys, self.voices)
        for way in places_in(good):
            if way == ():
                continue
            for other in others_for(at(good, way)):
                with self.assertRaises(TuneError, msg=(way, other.__class__)) as caught:
                    Tune(*with_other(good, way, other))
                self.assertIs(caught.exception.__class__, BadTune, way)

    def test_the_good_one_is(self):
        self.assertEqual(Tune(self.metres, self.keys, self.voices).sounds_told(1), self.voices[0])

    def test_oddments_in_each_place(self):
        def others(part):
            return [thing for thing in no_numbers() if not (isinstance(thing, bool) and isinstance(part, bool))]
        self.try_each(others)

    def test_lists_for_tuples_and_tuples_for_lists(self):
        self.try_each(lambda part: [list(part)] if isinstance(part, tuple) else
                      [tuple(part)] if isinstance(part, list) else [])

    def test_one_part_more_or_fewer(self):
        # Without any groups it is a metre as well.
        self.try_each(lambda part: [part[:-1], part + part[-1:], part[1:]]
                      if isinstance(part, tuple) and part != () else [])

    def test_numbers_that_are_not_whole(self):
        self.try_each(lambda part: [float(part), complex(part), str(part)]
                      if isinstance(part, int) and not isinstance(part, bool) else [])

    def test_truths_in_the_place_of_numbers(self):
        self.try_each(lambda part: [True, False] if isinstance(part, int) and not isinstance(part, bool) else [])

    def test_texts_in_each_place(self):
        self.try_each(lambda part: ["0", "rest ", "c4", " "])

    def test_numbers_in_the_place_of_what_is_none(self):
        self.try_each(lambda part: [0, 1, 24] if isinstance(part, bool) or not isinstance(part, int) else [])

    def test_far_numbers(self):
        self.try_each(lambda part: [10 ** 3900, -10 ** 3900, 9999, -9999]
                      if isinstance(part, int) and not isinstance(part, bool) else [])


if __name__ == "__main__":
    unittest.main()

"""Tunes: voices of sounds, with metres and keys that change at bars."""

from barwright.errors import BadTune
from barwright.keys import is_key
from barwright.metres import bar_grains, is_metre
from barwright.pitches import is_pitch, line
from barwright.words import do_rise, is_among, is_syllable, is_whole

LEAST_GRAINS = 2
MOST_REST_GRAINS = 4608
MOST_TONES_GRAINS = 384
MOST_PITCHES = 4
MOST_SOUNDS = 96
MOST_VOICES = 2
MOST_BARS = 24


class Sound:
    def __init__(self, length):
        self.length = length

    # Each sort of sound tells itself; a sound of no sort has nothing to tell.
    def told(self):
        return ()


class Rest(Sound):
    def told(self):
        return ("rest", self.length)


class Tones(Sound):
    def __init__(self, pitches, length, word, opens, closes):
        Sound.__init__(self, length)
        self.pitches = list(pitches)
        self.word = word
        self.opens = opens
        self.closes = closes

    def told(self):
        return ("tones", list(self.pitches), self.length, self.word, self.opens, self.closes)


class Tune:
    def __init__(self, metres, keys, voices):
        self.metre_changes = changes_of(metres, is_metre)
        self.key_changes = changes_of(keys, is_key)
        self.voices = voices_of(voices)
        self.bar_frames = frames_for(self.metre_changes, self.key_changes, self.lasts())
        need_within(self.metre_changes, len(self.bar_frames))
        need_within(self.key_changes, len(self.bar_frames))

    def metres_told(self):
        return list(self.metre_changes)

    def keys_told(self):
        return list(self.key_changes)

    def sounds_told(self, voice):
        # Without this 0 would tell of the last voice.
        if not is_among(voice, 1, len(self.voices)):
            return []
        return [sound.told() for sound in self.voices[voice - 1]]

    def many(self):
        return len(self.voices)

    def lasts(self):
        return max([grains_in(sounds) for sounds in self.voices])

    def frames(self):
        return list(self.bar_frames)


def need(is_so, why):
    if not is_so:
        raise BadTune(why)


def sound_of(told):
    if is_rest_told(told):
        return Rest(told[1])
    if is_tones_told(told):
        return Tones(told[1], told[2], told[3], told[4], told[5])
    raise BadTune("no sound is told so")


def is_rest_told(thing):
    return is_told_as("rest", 2, thing) and is_among(thing[1], LEAST_GRAINS, MOST_REST_GRAINS)


def is_tones_told(thing):
    if not is_told_as("tones", 6, thing) or not are_tones(thing[1]):
        return False
    if not is_among(thing[2], LEAST_GRAINS, MOST_TONES_GRAINS):
        return False
    return is_word(thing[3]) and isinstance(thing[4], bool) and isinstance(thing[5], bool)


def is_told_as(name, parts, thing):
    if not isinstance(thing, tuple) or len(thing) != parts:
        return False
    return isinstance(thing[0], str) and thing[0] == name


def are_tones(thing):
    if not isinstance(thing, list) or not 1 <= len(thing) <= MOST_PITCHES:
        return False
    return all([is_pitch(pitch) for pitch in thing]) and do_rise([line(pitch) for pitch in thing])


def is_word(thing):
    return isinstance(thing, str) and (thing == "" or is_syllable(thing))


def voices_of(things):
    need(isinstance(things, list) and 1 <= len(things) <= MOST_VOICES, "no list of one or two voices")
    return [voice_of(thing) for thing in things]


def voice_of(thing):
    need(isinstance(thing, list) and 1 <= len(thing) <= MOST_SOUNDS, "no voice of 1 to 96 sounds")
    sounds = tidy([sound_of(told) for told in thing])
    need(sounds != [], "a voice without a tone")
    need_slurs(sounds)
    return sounds


def tidy(sounds):
    kept = []
    for sound in sounds:
        if isinstance(sound, Rest) and ends_in_rest(kept):
            kept.append(long_rest(kept.pop().length + sound.length))
        else:
            kept.append(sound)
    return kept[:-1] if ends_in_rest(kept) else kept


def ends_in_rest(sounds):
    return sounds != [] and isinstance(sounds[-1], Rest)


def grains_in(sounds):
    return sum([sound.length for sound in sounds])


def long_rest(grains):
    need(grains <= MOST_REST_GRAINS, "rests side by side that are too long for one")
    return Rest(grains)


def need_slurs(sounds):
    is_open = False
    for sound in sounds:
        if isinstance(sound, Tones):
            if sound.closes:
                need(is_open, "a slur closes where none is open")
                is_open = False
            if sound.opens:
                need(not is_open, "a slur opens where one is open")
                is_open = True
    need(not is_open, "a slur is open at the end")


def changes_of(things, is_good):
    need(isinstance(things, list), "no list of changes")
    need(all([is_change(thing, is_good) for thing in things]), "no change at a bar")
    bars = [thing[0] for thing in things]
    need(bars[:1] == [1] and do_rise(bars), "changes whose bars don't rise from 1 on")
    values = [thing[1] for thing in things]
    need(all([one != other for one, other in zip(values, values[1:])]), "a change that changes nothing")
    return list(things)


def is_change(thing, is_good):
    return isinstance(thing, tuple) and len(thing) == 2 and is_whole(thing[0]) and is_good(thing[1])


def frames_for(metres, keys, lasts):
    frames = []
    begin = 0
    while begin < lasts:
        bar = len(frames) + 1
        need(bar <= MOST_BARS, "too many bars")
        metre = last_at(bar, metres)
        frames.append((begin, metre, last_at(bar, keys)))
        begin += bar_grains(metre)
    return frames


def last_at(bar, changes):
    return [change[1] for change in changes if change[0] <= bar][-1]


def need_within(changes, bars):
    need(changes[-1][0] <= bars, "a change behind the last bar")

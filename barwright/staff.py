"""Staffs: a tune set as bars of signs, and bars of signs heard as sounds."""

from barwright.marks import leans_for, marks_for
from barwright.metres import beats
from barwright.setting import bare_bars, beamed
from barwright.signs import Note, Pause, Whole
from barwright.threes import need_fine
from barwright.tunes import Rest, Tones, ends_in_rest


class Bar:
    def __init__(self, key, metre, voices):
        self.key = key
        self.metre = metre
        self.voices = [[own_sign(sign) for sign in signs] for signs in voices]

    def told(self):
        return (self.key, self.metre, [[sign.told() for sign in signs] for signs in self.voices])


# A sign's maker still has it and may change it, so a bar keeps another one like it.
def own_sign(sign):
    if isinstance(sign, Note):
        return Note(sign.heads, sign.piece, sign.is_tied, sign.is_beamed, sign.word, sign.opens, sign.closes)
    return Pause(sign.piece) if isinstance(sign, Pause) else Whole(sign.length)


def set_bars(tune):
    need_fine(tune)
    return [set_bar(frame[1], frame[2], voices) for frame, voices in zip(tune.frames(), bare_bars(tune))]


def set_bar(metre, key, voices):
    heads = heads_in(key, voices)
    signs = []
    for voice, bares in enumerate(voices, start=1):
        joined = beamed(bares, beats(metre))
        signs.append([sign_for(bare, is_joined, heads.get((bare[1], voice))) for bare, is_joined in zip(bares, joined)])
    return Bar(key, metre, signs)


# By (at, voice), the heads of each bare one of tones.
def heads_in(key, voices):
    rows = []
    for voice, bares in enumerate(voices, start=1):
        rows.extend([(bare[1], voice, bare[2], bare[4]) for bare in bares if bare[0] == "tones"])
    heads = {}
    for row, marks in zip(rows, marks_for(key, rows)):
        heads[row[:2]] = [(mark, pitch[0], pitch[2]) for mark, pitch in zip(marks, row[2])]
    return heads


def sign_for(bare, is_joined, heads):
    if bare[0] == "whole":
        return Whole(bare[1])
    if bare[0] == "rest":
        return Pause(bare[2])
    return Note(heads, bare[3], bare[5], is_joined, bare[6], bare[7], bare[8])


def hear(bars):
    voices = [[] for signs in bars[0].voices]
    ties = [False for signs in bars[0].voices]
    for bar in bars:
        begun = pitches_begun(bar, ties)
        for voice, signs in enumerate(bar.voices):
            hear_signs(voices[voice], voice, signs, begun)
        ties = [is_tied_note(signs[-1]) for signs in bar.voices]
    return [told_without_end_rest(sounds) for sounds in voices]


# By (at, voice), the pitches of each note that isn't tied to.
def pitches_begun(bar, ties):
    rows = []
    for voice, signs in enumerate(bar.voices):
        rows.extend(rows_begun(voice, signs, ties[voice]))
    begun = {}
    for row, pitches in zip(rows, leans_for(bar.key, rows)):
        begun[row[:2]] = pitches
    return begun


# Notes that are tied to are left out: they change nothing on the staff, and their pitches are known.
def rows_begun(voice, signs, comes):
    rows = []
    at = 0
    for sign in signs:
        if isinstance(sign, Note) and not comes:
            rows.append((at, voice, sign.heads, None))
        at += sign.grains()
        comes = is_tied_note(sign)
    return rows


def is_tied_note(sign):
    return isinstance(sign, Note) and sign.is_tied


def hear_signs(sounds, voice, signs, begun):
    at = 0
    for sign in signs:
        if (at, voice) in begun:
            sounds.append(Tones(begun[(at, voice)], sign.grains(), sign.word, sign.opens, sign.closes))
        elif isinstance(sign, Note) or ends_in_rest(sounds):
            last = sounds[-1]
            last.length += sign.grains()
        else:
            sounds.append(Rest(sign.grains()))
        at += sign.grains()


def told_without_end_rest(sounds):
    kept = sounds[:-1] if ends_in_rest(sounds) else sounds
    return [sound.told() for sound in kept]

"""Good things to build tests of."""

import copy

from barwright.errors import TooFine
from barwright.metres import bar_grains
from barwright.threes import need_fine
from barwright.tunes import Tune

C4 = (0, 0, 4)
D4 = (1, 0, 4)
E4 = (2, -1, 4)
G4 = (4, 0, 4)
C5 = (0, 1, 5)

FOUR = (4, 4, ())
THREE = (3, 4, ())
SIX = (6, 8, ())

ALL_METRES = [(top, bottom, ()) for bottom, most in ((2, 4), (4, 8), (8, 12)) for top in range(1, most + 1)]
GROUPED = [(7, 8, (3, 2, 2)), (7, 8, (2, 2, 3)), (5, 4, (3, 2)), (4, 4, (4,)), (8, 8, (5, 3)), (5, 8, (5,))]


# Lengths of which tunes are made that can be written: plain, in threes, and mixed.
FINE_LENGTHS = [[12, 24, 36, 48], [3, 6, 9, 15, 24, 27], [8, 16, 24, 48], [4, 8, 12, 24, 96], [8, 12, 16, 24, 32, 48],
                [2, 4, 6, 12, 22], [24, 30, 96, 150, 192, 384]]
ALL_LINES = range(63)
FEW_LINES = range(28, 37)


def rest(length):
    return ("rest", length)


def tones(pitches=(C4,), length=24, word="", opens=False, closes=False):
    return ("tones", list(pitches), length, word, opens, closes)


def everything(tune):
    """All that a tune tells, as it is told now."""
    voices = [tune.sounds_told(voice + 1) for voice in range(tune.many())]
    return copy.deepcopy((tune.metres_told(), tune.keys_told(), voices, tune.lasts(), tune.frames()))


def chance_changes(chance, bars, pick):
    """Changes that hold for so many bars, each with a value that pick gives."""
    changes = [(1, pick())]
    for bar in range(2, bars + 1):
        value = pick()
        if chance.randint(0, 3) == 0 and value != changes[-1][1]:
            changes.append((bar, value))
    return changes


def chance_pitches(chance, lines=ALL_LINES):
    """One to four pitches whose lines rise, and are among the given ones."""
    rising = sorted(chance.sample(lines, chance.choice([1, 1, 1, 2, 3, 4])))
    return [(number % 7, chance.randint(-2, 2), number // 7) for number in rising]


def chance_voice(chance, lasts, lengths, lines=ALL_LINES):
    """A tidy voice that lasts so long, or a grain less; its lengths are among the given ones where they can be."""
    sounds = []
    left = lasts
    is_open = False
    while left >= 2:
        # No shorter than this, or 96 sounds would be too few.
        least = -(-left // (96 - len(sounds)))
        length = chance.choice([length for length in lengths if least <= length <= left] or [min(left, 384)])
        left -= length
        if chance.randint(0, 3) == 0 and left >= 2 and not (sounds and sounds[-1][0] == "rest"):
            sounds.append(rest(length))
            continue
        closes = is_open and (left < 2 or chance.randint(0, 1) == 0)
        opens = (closes or not is_open) and left >= 2 and chance.randint(0, 2) == 0
        is_open = opens or is_open and not closes
        word = chance.choice(["", "la", "Ky-", "-", "abcdefghijkl"])
        sounds.append(tones(chance_pitches(chance, lines), length, word, opens, closes))
    return sounds


def chance_tune(chance, lengths, lines=ALL_LINES):
    bars = chance.randint(1, 12)
    metres = chance_changes(chance, bars, lambda: chance.choice(ALL_METRES + GROUPED))
    keys = chance_changes(chance, bars, lambda: chance.randint(-7, 7))
    by_bars = [[metre for at, metre in metres if at <= bar][-1] for bar in range(1, bars + 1)]
    lasts = sum(bar_grains(metre) for metre in by_bars) - chance.choice([0, 0, 2, 4, 6, 10])
    voices = [chance_voice(chance, lasts, lengths, lines)]
    if chance.randint(0, 1):
        voices.insert(chance.randint(0, 1), chance_voice(chance, chance.randint(2, lasts), lengths, lines))
    return Tune(metres, keys, voices)


def fine_tune(chance, lengths, lines=ALL_LINES):
    """A chance tune whose beats can all be written."""
    while True:
        tune = chance_tune(chance, lengths, lines)
        try:
            need_fine(tune)
        except TooFine:
            continue
        return tune

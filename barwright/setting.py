"""Setting: what lies in each bar, parted into bare pieces, and which of these are joined by beams."""

from barwright.bars import beats_by_bars, cut
from barwright.lengths import beat_at, parted, piece_grains
from barwright.threes import threes_in

BEAMED_VALUES = (8, 16, 32)


def bare_bars(tune):
    sounds = [tune.sounds_told(voice) for voice in range(1, tune.many() + 1)]
    bars = []
    for voices, beats in zip(cut(tune), beats_by_bars(tune)):
        bars.append([bares_in(stretches, told, beats) for stretches, told in zip(voices, sounds)])
    return bars


def bares_in(stretches, sounds, beats):
    first = stretches[0]
    if len(stretches) == 1 and is_rest(first):
        return [("whole", first[1])]
    threes = threes_in(stretches, beats)
    bares = []
    for stretch in stretches:
        pairs = placed(stretch[0], parted(stretch[0], stretch[0] + stretch[1], beats, threes))
        if is_rest(stretch):
            bares.extend([("rest", at, piece) for at, piece in pairs])
        else:
            bares.extend(bare_tones(stretch, pairs, sounds[stretch[2]]))
    return bares


def is_rest(stretch):
    return stretch[2] is None


# Each piece behind the place at which it begins.
def placed(at, pieces):
    pairs = []
    for piece in pieces:
        pairs.append((at, piece))
        at += piece_grains(piece)
    return pairs


def bare_tones(stretch, pairs, told):
    bares = []
    for number, pair in enumerate(pairs, start=1):
        comes = stretch[3] or number > 1
        goes = stretch[4] or number < len(pairs)
        syllable = "" if comes else told[3]
        begins = told[4] and not comes
        ends = told[5] and not comes
        # Each has a list of pitches of its own, so that none changes with another one.
        bares.append(("tones", pair[0], list(told[1]), pair[1], comes, goes, syllable, begins, ends))
    return bares


def beamed(bares, beats):
    joined = [are_joined(one, other, beats) for one, other in zip(bares, bares[1:])]
    # The last one, where there is one, has no next one.
    return joined + [False] * (len(bares) - len(joined))


def are_joined(one, other, beats):
    return may_join(one) and may_join(other) and beat_at(one[1], beats) == beat_at(other[1], beats)


def may_join(bare):
    return bare[0] == "tones" and bare[3][0] in BEAMED_VALUES

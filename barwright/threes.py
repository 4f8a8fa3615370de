"""Beats in threes: which beats are, and whether each beat of a tune can be written."""

from barwright.bars import beats_by_bars, cut
from barwright.errors import TooFine

LENGTHS_IN_THREES = (12, 24, 48)


def threes_in(stretches, beats):
    places = [stretch[0] for stretch in stretches] + [stretch[0] + stretch[1] for stretch in stretches]
    threes = [three_in(beat[0], beat[1], places) for beat in beats]
    return None if None in threes else threes


def three_in(begin, end, places):
    within = [place for place in places if begin < place < end]
    if all([place % 3 == 0 for place in within]):
        return False
    can_be = end - begin in LENGTHS_IN_THREES and all([(place - begin) % 2 == 0 for place in within])
    return True if can_be else None


def need_fine(tune):
    for bar, pair in enumerate(zip(cut(tune), beats_by_bars(tune)), start=1):
        for voice, stretches in enumerate(pair[0], start=1):
            if threes_in(stretches, pair[1]) is None:
                raise TooFine(bar, voice)

"""Metres, their words, their bars and their beats."""

from barwright.amounts import GRAINS
from barwright.words import is_among, is_whole, number_of, number_text

MOST_TOP = 12
BOTTOMS = (2, 4, 8)
MOST_BAR_GRAINS = 192


def is_metre(thing):
    if not isinstance(thing, tuple) or len(thing) != 3:
        return False
    top = thing[0]
    bottom = thing[1]
    if not is_among(top, 1, MOST_TOP) or not is_whole(bottom) or bottom not in BOTTOMS:
        return False
    return top * unit_grains(bottom) <= MOST_BAR_GRAINS and are_groups(thing[2], top)


def are_groups(thing, top):
    if not isinstance(thing, tuple):
        return False
    # No group is greater than the top, so this bound lets all good ones by.
    if not all([is_among(group, 1, top) for group in thing]):
        return False
    return thing == () or sum(thing) == top


def metre_of(word):
    if not isinstance(word, str):
        return None
    halves = word.partition(":")
    fraction = numbers_of(halves[0], "/")
    groups = [] if halves[1] == "" else numbers_of(halves[2], "+")
    if fraction is None or groups is None or len(fraction) != 2:
        return None
    metre = (fraction[0], fraction[1], tuple(groups))
    return metre if is_metre(metre) else None


def numbers_of(text, between):
    numbers = [number_of(part) for part in text.split(between)]
    return None if None in numbers else numbers


def metre_text(metre):
    fraction = number_text(metre[0]) + "/" + number_text(metre[1])
    if metre[2] == ():
        return fraction
    return fraction + ":" + "+".join([number_text(group) for group in metre[2]])


def unit_grains(bottom):
    return GRAINS // bottom


def bar_grains(metre):
    return metre[0] * unit_grains(metre[1])


def beat_units(metre):
    top = metre[0]
    if metre[2] != ():
        return list(metre[2])
    if metre[1] != 8 or top == 1:
        return [1] * top
    if top > 3 and top % 3 == 0:
        return [3] * (top // 3)
    if top % 2 == 1:
        return [2] * (top // 2 - 1) + [3]
    return [2] * (top // 2)


def rule_of(metre):
    units = beat_units(metre)

    def lengths(unit):
        return [unit * many for many in units]

    return lengths


def beats(metre):
    rule = rule_of(metre)
    pairs = []
    begin = 0
    for length in rule(unit_grains(metre[1])):
        pairs.append((begin, begin + length))
        begin += length
    return pairs

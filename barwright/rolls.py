"""Rolls: bars written once and played in parts that come again."""

from barwright.tunes import is_told_as
from barwright.words import is_among, is_whole

MOST_BARS_OF_A_PART = 4
MOST_BACK = 3


def is_roll(thing):
    if not isinstance(thing, tuple) or len(thing) != 2:
        return False
    parts = thing[0]
    if not isinstance(parts, list) or parts == [] or not all([is_part(part) for part in parts]):
        return False
    return is_among(thing[1], 0, min(MOST_BACK, len(parts)))


def is_part(thing):
    if is_told_as("bar", 2, thing):
        return is_bar(thing[1])
    if is_told_as("twice", 2, thing):
        return are_bars(thing[1])
    return is_told_as("ends", 4, thing) and are_bars(thing[1]) and is_bar(thing[2]) and is_bar(thing[3])


def is_bar(thing):
    return is_whole(thing) and thing >= 0


def are_bars(thing):
    if not isinstance(thing, list) or not 1 <= len(thing) <= MOST_BARS_OF_A_PART:
        return False
    return all([is_bar(bar) for bar in thing])


def unrolled(roll):
    row = []
    for part in roll[0]:
        row.extend(part_played(part))
    for part in roll[0][:roll[1]]:
        row.extend(part_again(part))
    return row


def part_played(part):
    if part[0] == "bar":
        return [part[1]]
    if part[0] == "twice":
        return part[1] + part[1]
    return part[1] + [part[2]] + part[1] + [part[3]]


def part_again(part):
    if part[0] == "bar":
        return [part[1]]
    return part[1] if part[0] == "twice" else part[1] + [part[3]]


def many(roll):
    return sum([part_written(part) for part in roll[0]])


def part_written(part):
    if part[0] == "bar":
        return 1
    return len(part[1]) if part[0] == "twice" else len(part[1]) + 2

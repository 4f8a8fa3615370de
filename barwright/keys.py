"""Keys, their words, how steps lean by them, and moving them by an interval."""

from barwright.errors import OutOfReach
from barwright.pitches import fifths
from barwright.words import is_among, number_of

MOST_SIGNS = 7


def is_key(thing):
    return is_among(thing, -MOST_SIGNS, MOST_SIGNS)


def key_of(word):
    key = number_of(word)
    return key if is_key(key) else None


def key_lean(key, step):
    # A lean is worth seven fifths, and seven lie from key - 1 to key + 5: just one lean ends there.
    return (key + 5 - fifths((step, 0, 0))) // 7


def aside(key, pitch):
    return pitch[1] - key_lean(key, pitch[0])


def moved_key(key, steps, halves):
    moved = key + 7 * halves - 12 * steps
    if not is_key(moved):
        raise OutOfReach("no key there: it has too many sharps or flats")
    return moved

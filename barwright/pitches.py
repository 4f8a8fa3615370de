"""Pitches, their words, and moving them by an interval."""

from barwright.errors import OutOfReach
from barwright.words import is_among, number_text

LETTERS = "cdefgab"
LEAN_WORDS = ("--", "-", "", "+", "++")
OCTAVE_FIGURES = "012345678"
STEP_HEIGHTS = (0, 2, 4, 5, 7, 9, 11)
STEP_FIFTHS = (0, 2, 4, -1, 1, 3, 5)


def is_pitch(thing):
    if not isinstance(thing, tuple) or len(thing) != 3:
        return False
    return is_among(thing[0], 0, 6) and is_among(thing[1], -2, 2) and is_among(thing[2], 0, 8)


def pitch_of(word):
    parts = parts_of(word)
    if parts is None or parts[1] not in LEAN_WORDS:
        return None
    return (parts[0], LEAN_WORDS.index(parts[1]) - 2, parts[2])


# A step, whatever text stands behind its letter, and an octave: heads on a staff have other texts there.
def parts_of(word):
    if not isinstance(word, str) or len(word) < 2:
        return None
    step = LETTERS.find(word[0])
    octave = OCTAVE_FIGURES.find(word[-1])
    if step < 0 or octave < 0:
        return None
    return (step, word[1:-1], octave)


def pitch_text(pitch):
    lean = pitch[1]
    # A text that is taken less than once is empty, so one of the two at most is left.
    return LETTERS[pitch[0]] + "-" * -lean + "+" * lean + number_text(pitch[2])


def line(pitch):
    return 7 * pitch[2] + pitch[0]


def height(pitch):
    return 12 * pitch[2] + STEP_HEIGHTS[pitch[0]] + pitch[1]


def fifths(pitch):
    return STEP_FIFTHS[pitch[0]] + 7 * pitch[1]


def moved_pitch(pitch, steps, halves):
    new_line = line(pitch) + steps
    octave = new_line // 7
    step = new_line % 7
    # The line settles step and octave; the lean is what the height then lacks.
    lean = height(pitch) + halves - height((step, 0, octave))
    moved = (step, lean, octave)
    if not is_pitch(moved):
        raise OutOfReach("no pitch there: its lean or its octave is beyond")
    return moved

"""A tune's text, written and read again."""

from barwright.amounts import amount_text, grains_of
from barwright.errors import BadRow
from barwright.keys import key_of
from barwright.metres import metre_of, metre_text
from barwright.pitches import pitch_of, pitch_text
from barwright.tunes import MOST_BARS, MOST_VOICES, Tune
from barwright.words import is_among, is_syllable, number_of, number_text, words_of

# A change is kept as (bar, kind, value), kind a place here: so changes in their order rise by bar and kind.
KINDS = ("metre", "key")
METRE = 0
KEY = 1


def read_tune(text):
    if not isinstance(text, str):
        raise BadRow(1)
    rows = text.split("\n")
    changes = changes_in(rows)
    voices = voices_in(rows, len(changes))
    return Tune(of_kind(METRE, changes), of_kind(KEY, changes), voices)


def of_kind(kind, changes):
    return [(change[0], change[2]) for change in changes if change[1] == kind]


def changes_in(rows):
    changes = []
    for number, row in enumerate(rows, start=1):
        if row == "voice" and len(changes) >= len(KINDS):
            return changes
        change = change_in(row, changes)
        if change is None:
            raise BadRow(number)
        changes.append(change)
    raise BadRow(len(rows) + 1)


def change_in(row, ahead):
    words = words_of(row)
    if words is None:
        return None
    if len(ahead) < len(KINDS):
        return named_change(1, len(ahead), words)
    if len(words) != 4 or words[0] != "at" or words[2] not in KINDS:
        return None
    bar = number_of(words[1])
    kind = KINDS.index(words[2])
    if not is_among(bar, 2, MOST_BARS) or (bar, kind) <= ahead[-1][:2]:
        return None
    return named_change(bar, kind, words[2:])


def named_change(bar, kind, words):
    if len(words) != 2 or words[0] != KINDS[kind]:
        return None
    value = metre_of(words[1]) if kind == METRE else key_of(words[1])
    return None if value is None else (bar, kind, value)


def voices_in(rows, first):
    voices = []
    for number, row in enumerate(rows[first:], start=first + 1):
        sound = told_in(row)
        if sound is not None:
            voices[-1].append(sound)
        elif row == "voice" and may_begin_another(voices):
            voices.append([])
        else:
            raise BadRow(number)
    if voices[-1] == []:
        raise BadRow(len(rows) + 1)
    return voices


def may_begin_another(voices):
    return len(voices) < MOST_VOICES and [] not in voices


# The sound as it is told, or None; whether there is a sound that is told so is left to what is made of it.
def told_in(row):
    words = words_of(row)
    if words is None or len(words) < 2:
        return None
    length = grains_of(words[1])
    if length is None:
        return None
    if words[0] == "r":
        return ("rest", length) if len(words) == 2 else None
    pitches = [pitch_of(word) for word in words[0].split(",")]
    return None if None in pitches else tones_in(pitches, length, words[2:])


def tones_in(pitches, length, words):
    opens = words[:1] == ["("]
    behind_opens = words[1:] if opens else words
    closes = behind_opens[:1] == [")"]
    syllables = behind_opens[1:] if closes else behind_opens
    if syllables == []:
        return ("tones", pitches, length, "", opens, closes)
    if len(syllables) > 1 or not is_syllable(syllables[0]):
        return None
    return ("tones", pitches, length, syllables[0], opens, closes)


def tune_text(tune):
    rows = [change_row(change) for change in changes_told(tune)]
    for voice in range(1, tune.many() + 1):
        rows.append("voice")
        rows.extend([sound_row(told) for told in tune.sounds_told(voice)])
    return "\n".join(rows)


def changes_told(tune):
    metres = [(bar, METRE, metre) for bar, metre in tune.metres_told()]
    keys = [(bar, KEY, key) for bar, key in tune.keys_told()]
    return sorted(metres + keys)


def change_row(change):
    value = metre_text(change[2]) if change[1] == METRE else number_text(change[2])
    row = KINDS[change[1]] + " " + value
    return row if change[0] == 1 else "at " + number_text(change[0]) + " " + row


def sound_row(told):
    if told[0] == "rest":
        return "r " + amount_text(told[1])
    words = [",".join([pitch_text(pitch) for pitch in told[1]]), amount_text(told[2])]
    if told[4]:
        words.append("(")
    if told[5]:
        words.append(")")
    if told[3] != "":
        words.append(told[3])
    return " ".join(words)

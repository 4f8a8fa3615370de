"""Signs: what a page is written with, and the words they are written as."""

from barwright.keys import key_of
from barwright.lengths import is_piece, piece_grains
from barwright.metres import metre_of, metre_text
from barwright.pitches import LETTERS, parts_of
from barwright.words import do_rise, is_syllable, number_of, number_text

MARKS = ("", "=", "+", "++", "-", "--")
MOST_HEADS = 4
# Tied, joined, a slur begins, one ends: in the order in which they stand behind a note's piece.
SIGNS_BEHIND = "~_()"


class Sign:
    # Each sort of sign tells and writes itself; a sign of no sort has nothing to tell.
    def told(self):
        return ()

    def written(self):
        return ""

    def grains(self):
        return 0


class Note(Sign):
    def __init__(self, heads, piece, is_tied, is_beamed, word, opens, closes):
        self.heads = list(heads)
        self.piece = piece
        self.is_tied = is_tied
        self.is_beamed = is_beamed
        self.word = word
        self.opens = opens
        self.closes = closes

    def told(self):
        return ("note", list(self.heads), self.piece, self.is_tied, self.is_beamed, self.word, self.opens, self.closes)

    def written(self):
        heads = ",".join([head_text(head) for head in self.heads])
        tied = "~" if self.is_tied else ""
        joined = "_" if self.is_beamed else ""
        begins = "(" if self.opens else ""
        ends = ")" if self.closes else ""
        syllable = "" if self.word == "" else ":" + self.word
        return heads + "/" + piece_text(self.piece) + tied + joined + begins + ends + syllable

    def grains(self):
        return piece_grains(self.piece)


class Pause(Sign):
    def __init__(self, piece):
        self.piece = piece

    def told(self):
        return ("pause", self.piece)

    def written(self):
        return "r/" + piece_text(self.piece)

    def grains(self):
        return piece_grains(self.piece)


class Whole(Sign):
    def __init__(self, length):
        self.length = length

    def told(self):
        return ("whole", self.length)

    def written(self):
        return "R"

    def grains(self):
        return self.length


class KeySign(Sign):
    def __init__(self, key):
        self.key = key

    def told(self):
        return ("key", self.key)

    def written(self):
        return "k" + number_text(self.key)


class MetreSign(Sign):
    def __init__(self, metre):
        self.metre = metre

    def told(self):
        return ("metre", self.metre)

    def written(self):
        return "m" + metre_text(self.metre)


class Begin(Sign):
    def told(self):
        return ("begin",)

    def written(self):
        return "|:"


class End(Sign):
    def told(self):
        return ("end",)

    def written(self):
        return ":|"


class Ending(Sign):
    def __init__(self, number):
        self.number = number

    def told(self):
        return ("ending", self.number)

    def written(self):
        return "[" + number_text(self.number)


class Close(Sign):
    def told(self):
        return ("close",)

    def written(self):
        return "]"


class Fine(Sign):
    def told(self):
        return ("fine",)

    def written(self):
        return "fine"


class Back(Sign):
    def told(self):
        return ("back",)

    def written(self):
        return "back"


def head_text(head):
    return LETTERS[head[1]] + head[0] + number_text(head[2])


def head_line(head):
    return 7 * head[2] + head[1]


def piece_text(piece):
    return number_text(piece[0]) + "." * piece[1] + ("'" if piece[2] else "")


def sign_of(word, length):
    if not isinstance(word, str):
        return None
    for sign in [Whole(length), Begin(), End(), Ending(1), Ending(2), Close(), Fine(), Back()]:
        if sign.written() == word:
            return sign
    if word.startswith("k"):
        return key_sign_of(word[1:])
    if word.startswith("m"):
        return metre_sign_of(word[1:])
    if word.startswith("r/"):
        return pause_of(word[2:])
    return note_of(word)


def key_sign_of(text):
    key = key_of(text)
    return None if key is None else KeySign(key)


def metre_sign_of(text):
    metre = metre_of(text)
    return None if metre is None else MetreSign(metre)


def pause_of(text):
    piece = piece_of(text)
    return None if piece is None else Pause(piece)


def piece_of(text):
    is_three = text.endswith("'")
    plain = text[:-1] if is_three else text
    value = plain.rstrip(".")
    piece = (number_of(value), len(plain) - len(value), is_three)
    return piece if is_piece(piece) else None


def note_of(word):
    halves = word.partition("/")
    heads = heads_of(halves[0])
    behind = halves[2].partition(":")
    syllable = behind[2]
    if heads is None or behind[1] == ":" and not is_syllable(syllable):
        return None
    # Signs that stand twice, or ahead of the piece's end, are left over, and make no piece.
    signs = "".join([sign for sign in SIGNS_BEHIND if sign in behind[0]])
    piece = piece_of(behind[0][:len(behind[0]) - len(signs)])
    if piece is None or not behind[0].endswith(signs):
        return None
    return Note(heads, piece, "~" in signs, "_" in signs, syllable, "(" in signs, ")" in signs)


def heads_of(text):
    heads = [head_of(word) for word in text.split(",")]
    if len(heads) > MOST_HEADS or None in heads or not do_rise([head_line(head) for head in heads]):
        return None
    return heads


def head_of(word):
    parts = parts_of(word)
    if parts is None or parts[1] not in MARKS:
        return None
    return (parts[1], parts[0], parts[2])

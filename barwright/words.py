"""Whole numbers, syllables, and the words of a row."""

FIGURES = "0123456789"
SYLLABLE_SIGNS = "abcdefghijklmnopqrstuvwxyzABCDEFGHIJKLMNOPQRSTUVWXYZ-"
MOST_FIGURES = 4
MOST_SYLLABLE_SIGNS = 12


def is_whole(thing):
    # Python itself counts True and False among the whole numbers.
    return isinstance(thing, int) and not isinstance(thing, bool)


def is_among(thing, least, most):
    return is_whole(thing) and least <= thing <= most


def do_rise(numbers):
    return all([one < other for one, other in zip(numbers, numbers[1:])])


def has_only(text, signs):
    # isalpha and isdigit would let by the letters and figures of other scripts.
    return all([sign in signs for sign in text])


def is_syllable(thing):
    if not isinstance(thing, str):
        return False
    return 1 <= len(thing) <= MOST_SYLLABLE_SIGNS and has_only(thing, SYLLABLE_SIGNS)


def are_figures(text):
    if not 1 <= len(text) <= MOST_FIGURES or not has_only(text, FIGURES):
        return False
    return text == "0" or not text.startswith("0")


def number_of(word):
    if not isinstance(word, str):
        return None
    # Without this "-0" would be read as nought, which is never written so.
    if word == "-0":
        return None
    figures = word[1:] if word.startswith("-") else word
    return int(word) if are_figures(figures) else None


def number_text(number):
    return str(number)


def words_of(row):
    if not isinstance(row, str):
        return None
    words = row.split(" ")
    # Two blanks side by side, one at an end, and the empty text each leave an empty word.
    return None if "" in words else words

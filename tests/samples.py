"""Good things to build tests of."""

C4 = (0, 0, 4)
D4 = (1, 0, 4)
E4 = (2, -1, 4)
G4 = (4, 0, 4)
C5 = (0, 1, 5)


def rest(length):
    return ("rest", length)


def tones(pitches=(C4,), length=24, word="", opens=False, closes=False):
    return ("tones", list(pitches), length, word, opens, closes)

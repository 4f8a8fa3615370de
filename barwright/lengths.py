"""Pieces: what one sign can last, where it may stand, and stretches parted into them."""

from barwright.amounts import GRAINS
from barwright.errors import BadStretch
from barwright.words import is_among, is_whole

MOST_DOTS = {1: 2, 2: 2, 4: 2, 8: 2, 16: 1, 32: 0}


def is_piece(thing):
    if not isinstance(thing, tuple) or len(thing) != 3 or not isinstance(thing[2], bool):
        return False
    # Python counts True as 1, and so would find it among the values.
    if not is_whole(thing[0]) or thing[0] not in MOST_DOTS:
        return False
    return is_among(thing[1], 0, MOST_DOTS[thing[0]])


def piece_grains(piece):
    more = GRAINS // piece[0]
    grains = more
    for dot in range(piece[1]):
        more = more // 2
        grains += more
    return grains * 2 // 3 if piece[2] else grains


def all_pieces(is_three):
    pieces = []
    for value in MOST_DOTS:
        for dots in range(MOST_DOTS[value] + 1):
            pieces.append((value, dots, is_three))
    return sorted(pieces, key=piece_grains, reverse=True)


def fits(begin, end, piece, beats, threes):
    if end != begin + piece_grains(piece):
        return False
    span = span_at(begin, beats, threes)
    return span is not None and span[0] == piece[2] and end <= span[1]


# Tells whether pieces that begin there are in threes, and their furthest end; None where none may begin:
# so one look at a place serves all pieces that are tried there.
def span_at(place, beats, threes):
    number = beat_at(place, beats)
    if number is None:
        return None
    begin = beats[number][0]
    end = beats[number][1]
    if threes[number]:
        return (True, end) if (place - begin) % 2 == 0 else None
    if place % 3 != 0:
        return None
    return (False, plain_end(number, beats, threes) if place == begin else end)


def beat_at(place, beats):
    for number, beat in enumerate(beats):
        if beat[0] <= place < beat[1]:
            return number
    return None


def plain_end(number, beats, threes):
    while number + 1 < len(beats) and not threes[number + 1]:
        number += 1
    return beats[number][1]


def parted(begin, end, beats, threes):
    choices = {True: all_pieces(True), False: all_pieces(False)}
    # From the end on, so that the best row from each later place is known when it is wanted.
    rows = {end: []}
    for place in range(end - 1, begin - 1, -1):
        span = span_at(place, beats, threes)
        if span is not None:
            found = rows_from(place, span, choices[span[0]], rows)
            if found != []:
                rows[place] = min(found, key=cost)
    if begin not in rows:
        raise BadStretch("no row of pieces fills it")
    return rows[begin]


def rows_from(place, span, pieces, rows):
    found = []
    for piece in pieces:
        behind = place + piece_grains(piece)
        if behind <= span[1] and behind in rows:
            found.append([piece] + rows[behind])
    return found


def cost(row):
    dots = sum([piece[1] for piece in row])
    return (len(row), dots, [-piece_grains(piece) for piece in row])

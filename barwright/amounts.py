"""Times and lengths in grains, and as fractions of a whole note."""

from barwright.words import number_of, number_text

GRAINS = 96
MOST_GRAINS = 4608


def common(one, other):
    while other > 0:
        rest = one % other
        one = other
        other = rest
    return one


def pair_of(grains):
    part = common(grains, GRAINS)
    return (grains // part, GRAINS // part)


def amount_text(grains):
    pair = pair_of(grains)
    top = number_text(pair[0])
    if pair[1] == 1:
        return top
    return top + "/" + number_text(pair[1])


def grains_of(word):
    if not isinstance(word, str):
        return None
    terms = word.split("/")
    if len(terms) > 2:
        return None
    top = number_of(terms[0])
    bottom = number_of(terms[1]) if len(terms) == 2 else 1
    if top is None or bottom is None:
        return None
    return whole_grains(top, bottom)


def whole_grains(top, bottom):
    if top < 1 or bottom < 1 or GRAINS * top % bottom != 0:
        return None
    grains = GRAINS * top // bottom
    return grains if grains <= MOST_GRAINS else None

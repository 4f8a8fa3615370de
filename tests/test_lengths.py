import itertools
import unittest
from fractions import Fraction

from barwright.errors import BadStretch, TuneError
from barwright.lengths import all_pieces, fits, is_piece, parted, piece_grains
from barwright.metres import beats as beats_of
from barwright.metres import metre_of
from oddments import Unfriendly, no_numbers

# What the pieces last, by value and dots, found by hand: plain, and in threes.
GRAINS = {
    (1, 0): (96, 64), (1, 1): (144, 96), (1, 2): (168, 112),
    (2, 0): (48, 32), (2, 1): (72, 48), (2, 2): (84, 56),
    (4, 0): (24, 16), (4, 1): (36, 24), (4, 2): (42, 28),
    (8, 0): (12, 8), (8, 1): (18, 12), (8, 2): (21, 14),
    (16, 0): (6, 4), (16, 1): (9, 6),
    (32, 0): (3, 2),
}
LASTS = {(value, dots, three): GRAINS[(value, dots)][three] for value, dots in GRAINS for three in (False, True)}


def beats_from(lengths):
    ends = list(itertools.accumulate(lengths))
    return [(end - length, end) for length, end in zip(lengths, ends)]


def all_threes(beats):
    choices = [(False, True) if end - begin in (12, 24, 48) else (False,) for begin, end in beats]
    return [list(threes) for threes in itertools.product(*choices)]


def may_stand(begin, piece, beats, threes):
    """What [24] asks, put another way: grain by grain over all that the piece covers."""
    end = begin + LASTS[piece]
    if end > beats[-1][1]:
        return False
    numbers = [next(n for n, beat in enumerate(beats) if beat[0] <= place < beat[1]) for place in range(begin, end)]
    first = numbers[0]
    if any(threes[number] != piece[2] for number in numbers):
        return False
    behind = begin - beats[first][0]
    if piece[2]:
        return behind % 2 == 0 and numbers[-1] == first
    return behind % 3 == 0 and (behind == 0 or numbers[-1] == first)


def is_end(place, beats, threes):
    """Whether a stretch may begin or end there, as the last clause of [25] tells it."""
    if any(end == place for begin, end in beats):
        return True
    for (begin, end), three in zip(beats, threes):
        if begin <= place < end:
            return (place - begin) % 2 == 0 if three else place % 3 == 0
    return False


def standing(beats, threes):
    """All pieces that may stand at each place."""
    return [[piece for piece in LASTS if may_stand(place, piece, beats, threes)] for place in range(beats[-1][1])]


class AllRows:
    """All rows of so many pieces from any place to one end."""

    def __init__(self, end, pieces_at):
        self.end = end
        self.pieces_at = pieces_at
        self.found = {}

    def rows(self, place, many):
        if many == 0:
            return [[]] if place == self.end else []
        if place >= self.end:
            return []
        if (place, many) not in self.found:
            self.found[(place, many)] = [
                [piece] + row
                for piece in self.pieces_at[place]
                for row in self.rows(place + LASTS[piece], many - 1)]
        return self.found[(place, many)]

    def best(self, place):
        for many in range(1, self.end + 1):
            rows = self.rows(place, many)
            if rows:
                dots = min(sum(piece[1] for piece in row) for row in rows)
                rows = [row for row in rows if sum(piece[1] for piece in row) == dots]
                return max(rows, key=lambda row: [LASTS[piece] for piece in row])
        return None


class TestIsPiece(unittest.TestCase):
    def test_all_and_just_beyond(self):
        for value in range(-3, 140):
            for dots in range(-2, 6):
                for three in (False, True):
                    self.assertIs(is_piece((value, dots, three)), (value, dots) in GRAINS, (value, dots, three))

    def test_a_dot_too_many(self):
        for piece in ((16, 1, False), (16, 1, True), (32, 0, False), (32, 0, True), (8, 2, True), (1, 2, False)):
            self.assertIs(is_piece(piece), True, piece)
        for piece in ((16, 2, False), (16, 2, True), (32, 1, False), (32, 1, True), (32, 2, False), (8, 3, True),
                      (1, 3, False), (64, 0, False), (0, 0, False), (-1, 0, False), (4, -1, False)):
            self.assertIs(is_piece(piece), False, piece)

    def test_numbers_in_the_place_of_truths(self):
        for thing in (0, 1, 2, None, "", "True", 1.0, 0.0, [], (), Unfriendly()):
            self.assertIs(is_piece((4, 0, thing)), False)

    def test_truths_in_the_place_of_numbers(self):
        for piece in ((True, 0, False), (True, 0, True), (False, 0, False), (4, True, False), (4, False, False),
                      (1, True, True), (True, True, True)):
            self.assertIs(is_piece(piece), False, piece)

    def test_other_things_in_a_place(self):
        for thing in no_numbers() + ["", "4", (), (4,), 10 ** 50, -10 ** 50]:
            self.assertIs(is_piece((thing, 0, False)), False)
            self.assertIs(is_piece((4, thing, False)), False)
            if not isinstance(thing, bool):
                self.assertIs(is_piece((4, 0, thing)), False)
        for piece in ((4.0, 0, False), (4, 0.0, False), (1.0, 1.0, True)):
            self.assertIs(is_piece(piece), False)

    def test_one_part_more_or_fewer(self):
        for thing in ((), (4,), (4, 0), (4, 0, False, False), (4, 0, 0, False), (4, False)):
            self.assertIs(is_piece(thing), False, thing)

    def test_nothing_else_is(self):
        for thing in no_numbers() + ["4", "4.", "", 4, [4, 0, False], [4, 0, True], {4: 0}]:
            self.assertIs(is_piece(thing), False)


class TestPieces(unittest.TestCase):
    def test_what_they_last(self):
        for piece, grains in LASTS.items():
            self.assertEqual(piece_grains(piece), grains, piece)

    def test_what_they_last_as_fractions(self):
        for value, dots, three in LASTS:
            whole = Fraction(96, value) * (1 + Fraction(dots > 0, 2) + Fraction(dots > 1, 4))
            expected = whole * Fraction(2, 3) if three else whole
            told = piece_grains((value, dots, three))
            self.assertIsInstance(told, int)
            self.assertEqual(told, expected)

    def test_all_of_both_sorts_the_longest_first(self):
        for three in (False, True):
            told = all_pieces(three)
            self.assertIsInstance(told, list)
            expected = sorted([piece for piece in LASTS if piece[2] is three], key=lambda piece: -LASTS[piece])
            self.assertEqual(told, expected)
            self.assertEqual(len(told), 15)
            self.assertTrue(all(is_piece(piece) for piece in told))
        self.assertEqual([piece_grains(piece) for piece in all_pieces(False)],
                         [168, 144, 96, 84, 72, 48, 42, 36, 24, 21, 18, 12, 9, 6, 3])
        self.assertEqual([piece_grains(piece) for piece in all_pieces(True)],
                         [112, 96, 64, 56, 48, 32, 28, 24, 16, 14, 12, 8, 6, 4, 2])

    def test_told_lists_are_the_askers_own(self):
        for three in (False, True):
            told = all_pieces(three)
            before = list(told)
            told.reverse()
            told.pop()
            self.assertEqual(all_pieces(three), before)


class TestFits(unittest.TestCase):
    four = [(0, 24), (24, 48), (48, 72), (72, 96)]
    none = [False] * 4

    def expect(self, good, begin, piece, beats, threes):
        end = begin + LASTS[piece]
        self.assertIs(fits(begin, end, piece, beats, threes), good, (begin, piece, beats, threes))

    def test_plain_at_a_beats_begin(self):
        for piece in ((1, 0, False), (2, 1, False), (4, 2, False), (8, 2, False), (32, 0, False)):
            self.expect(True, 0, piece, self.four, self.none)
        self.expect(True, 24, (2, 1, False), self.four, self.none)
        self.expect(False, 24, (2, 2, False), self.four, self.none)
        self.expect(True, 72, (4, 0, False), self.four, self.none)
        self.expect(False, 72, (4, 1, False), self.four, self.none)
        self.expect(False, 0, (1, 1, False), self.four, self.none)

    def test_plain_within_a_beat(self):
        self.expect(True, 12, (8, 0, False), self.four, self.none)
        self.expect(False, 12, (8, 1, False), self.four, self.none)
        self.expect(False, 12, (4, 0, False), self.four, self.none)
        self.expect(True, 3, (8, 2, False), self.four, self.none)
        self.expect(False, 6, (8, 2, False), self.four, self.none)
        self.expect(True, 21, (32, 0, False), self.four, self.none)
        self.expect(False, 21, (16, 0, False), self.four, self.none)

    def test_plain_up_to_the_last_beat_that_isnt_in_threes(self):
        self.expect(True, 0, (2, 0, False), self.four, [False, False, True, False])
        self.expect(False, 0, (2, 1, False), self.four, [False, False, True, False])
        self.expect(False, 0, (1, 0, False), self.four, [False, False, True, False])
        self.expect(True, 0, (4, 0, False), self.four, [False, True, False, False])
        self.expect(False, 0, (4, 1, False), self.four, [False, True, False, False])
        self.expect(True, 48, (2, 0, False), self.four, [True, True, False, False])
        self.expect(False, 24, (4, 0, False), self.four, [False, True, False, False])
        self.expect(False, 24, (32, 0, False), self.four, [False, True, False, False])

    def test_plain_that_isnt_at_a_multiple_of_three(self):
        for begin in range(24):
            self.expect(begin % 3 == 0 and begin <= 21, begin, (32, 0, False), self.four[:1], [False])

    def test_in_threes(self):
        threes = [False, True, True, False]
        self.expect(True, 24, (4, 1, True), self.four, threes)
        self.expect(False, 24, (4, 2, True), self.four, threes)
        self.expect(False, 24, (2, 1, True), self.four, threes)
        self.expect(True, 32, (4, 0, True), self.four, threes)
        self.expect(True, 26, (8, 0, True), self.four, threes)
        self.expect(False, 25, (8, 0, True), self.four, threes)
        self.expect(False, 27, (8, 0, True), self.four, threes)
        self.expect(True, 46, (32, 0, True), self.four, threes)
        self.expect(False, 46, (16, 0, True), self.four, threes)
        self.expect(False, 0, (8, 0, True), self.four, threes)
        self.expect(False, 72, (8, 0, True), self.four, threes)

    def test_even_behind_the_begin_of_the_beat(self):
        beats = beats_from([36, 12, 24])
        for begin in range(36, 48):
            good = begin % 2 == 0 and begin <= 46
            self.expect(good, begin, (32, 0, True), beats, [False, True, False])

    def test_an_end_that_isnt_the_pieces(self):
        for end in list(range(-30, 130)):
            self.assertIs(fits(0, end, (4, 0, False), self.four, self.none), end == 24, end)
            self.assertIs(fits(24, end, (4, 0, False), self.four, self.none), end == 48, end)
            self.assertIs(fits(24, end, (8, 0, True), self.four, [True] * 4), end == 32, end)

    def test_an_end_below_nought(self):
        for end in (-1, -3, -24, -10 ** 50):
            for begin in (0, 3, 24, 96, 200):
                self.assertIs(fits(begin, end, (4, 0, False), self.four, self.none), False)

    def test_a_begin_at_the_beats_end_and_behind(self):
        for begin in (96, 97, 98, 99, 120, 192, 10 ** 50):
            for piece in ((32, 0, False), (4, 0, False), (32, 0, True), (8, 0, True)):
                for threes in (self.none, [True] * 4, [False, False, False, True]):
                    self.expect(False, begin, piece, self.four, threes)

    def test_all_of_many_beats(self):
        for lengths in ([12], [24], [48], [36], [12, 24], [24, 12, 36], [36, 12, 12], [48, 24], [96], [60, 24]):
            beats = beats_from(lengths)
            last = beats[-1][1]
            for threes in all_threes(beats):
                for begin in range(last + 8):
                    for piece in LASTS:
                        good = begin < last and may_stand(begin, piece, beats, threes)
                        self.expect(good, begin, piece, beats, threes)

    def test_nothing_handed_in_is_changed(self):
        beats = list(self.four)
        threes = [False, True, False, False]
        fits(0, 24, (4, 0, False), beats, threes)
        parted(0, 96, beats, threes)
        self.assertEqual(beats, self.four)
        self.assertEqual(threes, [False, True, False, False])


class TestParted(unittest.TestCase):
    four = [(0, 24), (24, 48), (48, 72), (72, 96)]
    none = [False] * 4

    def try_parted(self, begin, end, beats, threes):
        try:
            return parted(begin, end, beats, threes)
        except BadStretch:
            return None

    def expect_all(self, beats, threes, ends=None):
        pieces_at = standing(beats, threes)
        for end in ends or range(1, beats[-1][1] + 1):
            rows = AllRows(end, pieces_at)
            for begin in range(end):
                told = self.try_parted(begin, end, beats, threes)
                good = is_end(begin, beats, threes) and is_end(end, beats, threes)
                self.assertEqual(told is not None, good, (begin, end, beats, threes))
                if good:
                    self.assertEqual(told, rows.best(begin), (begin, end, beats, threes))

    def test_small_beats_with_all_threes(self):
        for lengths in ([12], [24], [36], [48], [12, 12], [12, 24], [24, 12], [24, 24], [12, 36], [36, 12], [36, 36],
                        [12, 12, 12], [24, 12, 24], [48, 24], [24, 48], [12, 24, 36]):
            beats = beats_from(lengths)
            for threes in all_threes(beats):
                self.expect_all(beats, threes)

    def test_beats_of_metres_with_all_threes(self):
        for word in ("3/4", "5/8", "7/8:3+2+2", "6/8", "4/4", "2/2"):
            beats = beats_of(metre_of(word))
            for threes in all_threes(beats):
                self.expect_all(beats, threes)

    def test_long_bars(self):
        for word in ("4/2", "8/4", "12/8", "11/8", "8/8:8", "8/4:5+3", "12/8:1+1+1+1+1+1+1+1+1+1+1+1", "4/2:4"):
            beats = beats_of(metre_of(word))
            last = beats[-1][1]
            every = all_threes(beats)
            for threes in {tuple(every[0]), tuple(every[-1]), tuple(every[len(every) // 3]), tuple(every[len(every) // 2])}:
                self.expect_all(beats, list(threes), [7, 9, 44, last // 2 + 3, last - 10, last - 3, last - 1, last])

    def test_some_by_hand(self):
        for begin, end, row in (
                (0, 96, [(1, 0, False)]), (0, 24, [(4, 0, False)]), (0, 72, [(2, 1, False)]),
                (0, 84, [(2, 2, False)]), (12, 24, [(8, 0, False)]), (12, 48, [(8, 0, False), (4, 0, False)]),
                (12, 84, [(8, 0, False), (2, 0, False), (8, 0, False)]), (3, 24, [(8, 2, False)]),
                (0, 15, [(8, 0, False), (32, 0, False)]), (0, 30, [(4, 0, False), (16, 0, False)]),
                (0, 27, [(4, 0, False), (32, 0, False)]), (21, 27, [(32, 0, False), (32, 0, False)]),
                (0, 60, [(2, 0, False), (8, 0, False)]), (0, 93, [(2, 2, False), (16, 1, False)])):
            self.assertEqual(parted(begin, end, self.four, self.none), row, (begin, end))

    def test_by_hand_with_threes(self):
        threes = [True, False, False, True]
        for begin, end, row in (
                (0, 24, [(4, 1, True)]), (0, 8, [(8, 0, True)]), (8, 24, [(4, 0, True)]),
                (0, 96, [(4, 1, True), (2, 0, False), (4, 1, True)]), (24, 72, [(2, 0, False)]),
                (16, 36, [(8, 0, True), (8, 0, False)]), (0, 2, [(32, 0, True)]),
                (48, 80, [(4, 0, False), (8, 0, True)])):
            self.assertEqual(parted(begin, end, self.four, threes), row, (begin, end))

    def test_fewer_dots_ahead_of_a_longer_first_piece(self):
        # Two pieces each: a longer first one would have a dot where 48 and 12 have none.
        self.assertEqual(parted(0, 60, self.four, self.none), [(2, 0, False), (8, 0, False)])
        # 20 grains in threes: 14 and 6 have three dots, 16 and 4 none.
        self.assertEqual(parted(0, 20, [(0, 24)], [True]), [(4, 0, True), (16, 0, True)])

    def test_refused_just_where_the_document_says(self):
        threes = [False, True, False, False]
        for begin, end in ((1, 24), (0, 23), (2, 24), (0, 22), (0, 25), (25, 48), (24, 27), (24, 33), (0, 27), (49, 72),
                           (50, 96), (0, 95), (0, 1), (23, 96)):
            with self.assertRaises(BadStretch, msg=(begin, end)):
                parted(begin, end, self.four, threes)
        for begin, end in ((3, 24), (0, 21), (26, 48), (24, 26), (0, 26), (46, 51), (0, 96), (24, 48), (48, 51)):
            self.assertTrue(parted(begin, end, self.four, threes), (begin, end))

    def test_refused_beyond_the_beats(self):
        for begin, end in ((0, 97), (0, 99), (90, 120), (96, 120), (100, 104)):
            with self.assertRaises(BadStretch):
                parted(begin, end, self.four, self.none)

    def test_each_piece_may_stand_there(self):
        for threes in all_threes(self.four)[::5]:
            for begin, end in itertools.combinations(range(97), 2):
                row = self.try_parted(begin, end, self.four, threes)
                if row is not None:
                    place = begin
                    for piece in row:
                        self.assertIs(is_piece(piece), True)
                        behind = place + piece_grains(piece)
                        self.assertIs(fits(place, behind, piece, self.four, threes), True)
                        place = behind
                    self.assertEqual(place, end)

    def test_what_refuses_is_a_tune_error(self):
        with self.assertRaises(TuneError) as caught:
            parted(0, 1, self.four, self.none)
        self.assertIs(caught.exception.__class__, BadStretch)

    def test_told_lists_are_the_askers_own(self):
        told = parted(12, 84, self.four, self.none)
        before = list(told)
        told.append((4, 0, False))
        told[0] = None
        self.assertEqual(parted(12, 84, self.four, self.none), before)


if __name__ == "__main__":
    unittest.main()

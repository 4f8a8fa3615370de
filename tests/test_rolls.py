import copy
import itertools
import unittest

from barwright.rolls import is_roll, many, unrolled
from oddments import Unfriendly, no_numbers, no_texts

BAR = ("bar", 0)
TWICE = ("twice", [1, 2])
ENDS = ("ends", [3], 4, 5)

# A part, what it plays, what it plays once more, how many bars it writes.
PARTS = [
    (("bar", 7), [7], [7], 1),
    (("twice", [7]), [7, 7], [7], 1),
    (("twice", [7, 8, 9]), [7, 8, 9, 7, 8, 9], [7, 8, 9], 3),
    (("twice", [5, 5, 6, 5]), [5, 5, 6, 5, 5, 5, 6, 5], [5, 5, 6, 5], 4),
    (("ends", [1], 2, 3), [1, 2, 1, 3], [1, 3], 3),
    (("ends", [1, 4, 1, 9], 2, 3), [1, 4, 1, 9, 2, 1, 4, 1, 9, 3], [1, 4, 1, 9, 3], 6),
    (("ends", [1, 1], 1, 1), [1, 1, 1, 1, 1, 1], [1, 1, 1], 4),
]


class TestIsRoll(unittest.TestCase):
    def good(self, thing):
        before = copy.deepcopy(thing)
        self.assertIs(is_roll(thing), True, thing)
        self.assertEqual(thing, before)

    def bad(self, thing):
        self.assertIs(is_roll(thing), False)

    def test_each_sort_of_part(self):
        for part in [BAR, TWICE, ENDS] + [one[0] for one in PARTS]:
            self.good(([part], 0))
            self.good(([part], 1))
        self.good(([BAR, TWICE, ENDS], 0))
        self.good(([ENDS, ENDS, TWICE, BAR, BAR, TWICE], 3))
        self.good(([BAR] * 100, 3))

    def test_bars_from_nought_on(self):
        for bar in (0, 1, 23, 24, 9999, 10 ** 30):
            self.good(([("bar", bar)], 0))
            self.good(([("twice", [bar])], 0))
            self.good(([("ends", [bar], bar, bar)], 0))
        for bar in (-1, -9999):
            self.no_bar(bar)

    def no_bar(self, thing):
        self.bad(([("bar", thing)], 0))
        self.bad(([BAR, ("bar", thing)], 0))
        for bars in ([thing], [thing, 0], [0, thing], [0, 1, 2, thing]):
            self.bad(([("twice", bars)], 0))
            self.bad(([("ends", bars, 0, 1)], 0))
        self.bad(([("ends", [0], thing, 1)], 0))
        self.bad(([("ends", [0], 1, thing)], 0))

    def test_what_is_no_bar(self):
        for thing in no_numbers() + ["", "0", "1", "bar", (), (0,), (0, 1), BAR]:
            self.no_bar(thing)

    def test_lists_of_one_to_four(self):
        for length in range(1, 5):
            self.good(([("twice", list(range(length)))], 0))
            self.good(([("ends", [0] * length, 1, 2)], 0))
        for length in (0, 5, 6, 24):
            self.bad(([("twice", [0] * length)], 0))
            self.bad(([("ends", [0] * length, 1, 2)], 0))

    def test_what_is_no_list_of_bars(self):
        for thing in no_texts() + ["", "0", "01", (0, 1), {0: 1}, [[0]]]:
            if thing.__class__ is list and thing and all(one.__class__ is int for one in thing):
                continue
            self.bad(([("twice", thing)], 0))
            self.bad(([("ends", thing, 0, 1)], 0))

    def test_what_is_no_part(self):
        for thing in no_texts() + [
                "", "bar", ["bar", 0], ("bar",), ("bar", 0, 0), ("bar", [0]), ("twice",), ("twice", 0), ("twice", [0], 0),
                ("twice", [0], 0, 1), ("ends", [0]), ("ends", [0], 1), ("ends", [0], 1, 2, 3), ("ends", 0, 1, 2),
                ("ends", [0], [1], [2]), ["twice", [0]], ["ends", [0], 1, 2], ("Bar", 0), ("bars", 0), ("", 0), ("thrice", [0]),
                ("end", [0], 1, 2), ("bar ", 0), (0, 0), (None, 0), (Unfriendly(), 0), (Unfriendly(), [0], 1, 2),
                (True, [0]), (["bar"], 0), (("bar",), 0), (b"bar", 0)]:
            self.bad(([thing], 0))
            self.bad(([BAR, thing], 0))
            self.bad(([thing, BAR], 1))

    def test_what_are_no_parts(self):
        for thing in no_texts() + ["", "bar", (BAR,), (BAR, TWICE), {BAR: 0}, BAR, TWICE]:
            self.bad((thing, 0))
        self.bad(([], 0))
        self.bad(([], 1))

    def test_back(self):
        for length in range(1, 6):
            for back in range(-3, 8):
                self.assertIs(is_roll(([BAR] * length, back)), 0 <= back <= min(3, length), (length, back))
                self.assertIs(is_roll(([ENDS] * length, back)), 0 <= back <= min(3, length), (length, back))
        for thing in no_numbers() + ["", "0", "1", (), (0,), [0], 10 ** 30, -10 ** 30]:
            self.bad(([BAR] * 4, thing))

    def test_back_counts_parts_not_bars(self):
        self.bad(([("twice", [0, 1, 2])], 2))
        self.bad(([("ends", [0, 1], 2, 3), BAR], 3))

    def test_what_is_no_pair(self):
        for thing in no_texts() + ["", "roll", [[BAR], 0], ([BAR],), ([BAR], 0, 0), (), ([BAR], 0, None), (0, [BAR])]:
            self.bad(thing)


class TestUnrolled(unittest.TestCase):
    def played(self, roll, row, written):
        before = copy.deepcopy(roll)
        self.assertTrue(is_roll(roll))
        self.assertEqual(unrolled(roll), row)
        self.assertIs(unrolled(roll).__class__, list)
        self.assertEqual(many(roll), written)
        self.assertEqual(roll, before)

    def test_each_sort_by_itself(self):
        for part, row, again, written in PARTS:
            self.played(([part], 0), row, written)
            self.played(([part], 1), row + again, written)

    def test_side_by_side(self):
        for pairs in itertools.product(PARTS, repeat=3):
            row = sum([pair[1] for pair in pairs], [])
            written = sum(pair[3] for pair in pairs)
            for back in range(4):
                again = sum([pair[2] for pair in pairs[:back]], [])
                self.played(([pair[0] for pair in pairs], back), row + again, written)

    def test_by_hand(self):
        self.played(([BAR, TWICE, ENDS], 0), [0, 1, 2, 1, 2, 3, 4, 3, 5], 6)
        self.played(([BAR, TWICE, ENDS], 1), [0, 1, 2, 1, 2, 3, 4, 3, 5, 0], 6)
        self.played(([BAR, TWICE, ENDS], 2), [0, 1, 2, 1, 2, 3, 4, 3, 5, 0, 1, 2], 6)
        self.played(([BAR, TWICE, ENDS], 3), [0, 1, 2, 1, 2, 3, 4, 3, 5, 0, 1, 2, 3, 5], 6)
        self.played(([ENDS, BAR, BAR, BAR, TWICE], 3), [3, 4, 3, 5, 0, 0, 0, 1, 2, 1, 2, 3, 5, 0, 0], 8)
        self.played(([("bar", 10 ** 30)], 1), [10 ** 30] * 2, 1)

    def test_like_bars_are_written_as_often_as_they_stand(self):
        self.played(([("bar", 0)] * 5, 0), [0] * 5, 5)
        self.played(([("ends", [0, 0], 0, 0), ("twice", [0, 0])], 2), [0] * 15, 6)

    def test_told_lists_are_the_askers_own(self):
        for back in range(4):
            roll = ([("twice", [1, 2]), ("ends", [3, 4], 5, 6), ("bar", 7)], back)
            before = copy.deepcopy(roll)
            told = unrolled(roll)
            again = list(told)
            told.clear()
            self.assertEqual(unrolled(roll), again)
            self.assertEqual(roll, before)
            self.assertIsNot(unrolled(roll), unrolled(roll))
            roll[0][0][1].append(8)
            roll[0].pop()
            self.assertEqual(again, unrolled(before))


if __name__ == "__main__":
    unittest.main()

import unittest

from barwright.metres import bar_grains, beats, is_metre, metre_of, metre_text, rule_of
from oddments import Unfriendly, no_numbers, no_texts

# The greatest top for each bottom: a bar has two whole notes at most, a top is 12 at most.
MOST_TOPS = {2: 4, 4: 8, 8: 12}

BEATS_OF_EIGHTHS = {
    1: [1], 2: [2], 3: [3], 4: [2, 2], 5: [2, 3], 6: [3, 3], 7: [2, 2, 3], 8: [2, 2, 2, 2], 9: [3, 3, 3],
    10: [2, 2, 2, 2, 2], 11: [2, 2, 2, 2, 3], 12: [3, 3, 3, 3],
}


def sums_to(whole):
    """All tuples of whole numbers from 1 on with that sum."""
    if whole == 0:
        return [()]
    return [(first,) + rest for first in range(1, whole + 1) for rest in sums_to(whole - first)]


def plain_metres():
    return [(top, bottom, ()) for bottom, most in MOST_TOPS.items() for top in range(1, most + 1)]


def grouped_metres():
    return [(top, bottom, groups) for top, bottom, none in plain_metres() for groups in sums_to(top)]


class TestIsMetre(unittest.TestCase):
    def test_tops_and_bottoms(self):
        for top in range(-3, 30):
            for bottom in range(-10, 100):
                good = bottom in MOST_TOPS and 1 <= top <= MOST_TOPS[bottom]
                self.assertIs(is_metre((top, bottom, ())), good, (top, bottom))

    def test_named_edges(self):
        for top, good in ((0, False), (1, True), (12, True), (13, False)):
            self.assertIs(is_metre((top, 8, ())), good, top)
        # Just 192 grains, and one unit more.
        for metre, good in (((4, 2, ()), True), ((5, 2, ()), False), ((8, 4, ()), True), ((9, 4, ()), False),
                            ((5, 2, (5,)), False), ((9, 4, (3, 3, 3)), False), ((12, 4, ()), False)):
            self.assertIs(is_metre(metre), good, metre)

    def test_all_groups_whose_sum_is_the_top(self):
        for metre in grouped_metres():
            self.assertIs(is_metre(metre), True, metre)

    def test_groups_whose_sum_isnt_the_top(self):
        for top in range(1, 9):
            for whole in range(1, 11):
                for groups in sums_to(whole):
                    self.assertIs(is_metre((top, 4, groups)), top == whole, (top, groups))

    def test_groups_with_nought_or_less(self):
        for groups in ((0,), (4, 0), (0, 4), (2, 0, 2), (5, -1), (-1, 5), (-4,), (2, 3, -1), (8, -4), (0, 0)):
            self.assertIs(is_metre((4, 4, groups)), False, groups)

    def test_many_groups(self):
        self.assertIs(is_metre((4, 4, (1,) * 5000)), False)
        self.assertIs(is_metre((4, 4, (10 ** 50, 4 - 10 ** 50))), False)

    def test_other_things_as_groups(self):
        for thing in no_numbers() + [4, 0, "", "4", "2+2", [2, 2], [4], {2: 2}]:
            self.assertIs(is_metre((4, 4, thing)), False)

    def test_other_things_in_a_place(self):
        for thing in no_numbers() + ["", "4", (), (4,), 10 ** 50, -10 ** 50]:
            self.assertIs(is_metre((thing, 4, ())), False)
            self.assertIs(is_metre((4, thing, ())), False)
            self.assertIs(is_metre((4, 4, (thing,))), False)
            self.assertIs(is_metre((4, 4, (3, thing))), False)
            self.assertIs(is_metre((4, 4, (thing, 3))), False)

    def test_truths_in_a_place(self):
        for truth in (True, False):
            for thing in ((truth, 4, ()), (truth, 4, (1,)), (1, 4, (truth,)), (4, truth, ()), (2, 4, (1, truth)),
                          (2, 4, (truth, 1)), (2, 4, truth)):
                self.assertIs(is_metre(thing), False, thing)

    def test_numbers_that_are_not_whole(self):
        for thing in ((4.0, 4, ()), (4, 4.0, ()), (4, 2.0, ()), (4, 4, (4.0,)), (4, 8.0, ()), (4, 4, (2.0, 2))):
            self.assertIs(is_metre(thing), False, thing)

    def test_one_part_more_or_fewer(self):
        for thing in ((), (4,), (4, 4), (4, 4, (), ()), (4, 4, (4,), 4), (4, 4, 2, 2)):
            self.assertIs(is_metre(thing), False, thing)

    def test_nothing_else_is(self):
        for thing in no_numbers() + ["4/4", "", 4, [4, 4, ()], [4, 4, []], {4: 4}, Unfriendly()]:
            self.assertIs(is_metre(thing), False)

    def test_nothing_handed_in_is_changed(self):
        thing = (4, 4, [2, 2])
        is_metre(thing)
        metre_of(["4", "4"])
        self.assertEqual(thing, (4, 4, [2, 2]))


class TestWords(unittest.TestCase):
    def test_named_one(self):
        self.assertEqual(metre_of("7/8:3+2+2"), (7, 8, (3, 2, 2)))
        self.assertEqual(metre_text((7, 8, (3, 2, 2))), "7/8:3+2+2")

    def test_all_without_groups(self):
        for top, bottom, groups in plain_metres():
            word = str(top) + "/" + str(bottom)
            self.assertEqual(metre_text((top, bottom, ())), word)
            self.assertEqual(metre_of(word), (top, bottom, ()))
            self.assertIs(is_metre(metre_of(word)), True)

    def test_all_with_groups(self):
        words = set()
        for top, bottom, groups in grouped_metres():
            word = str(top) + "/" + str(bottom) + ":" + "+".join(str(group) for group in groups)
            self.assertEqual(metre_text((top, bottom, groups)), word)
            self.assertEqual(metre_of(word), (top, bottom, groups))
            words.add(word)
        self.assertEqual(len(words), 15 + 255 + 4095)

    def test_groups_that_the_rule_gives_as_well_are_another_metre(self):
        for top, bottom, none in plain_metres():
            groups = tuple(rule_of((top, bottom, ()))(1))
            self.assertNotEqual((top, bottom, groups), (top, bottom, ()))
            self.assertEqual(beats((top, bottom, groups)), beats((top, bottom, ())))
            word = metre_text((top, bottom, groups))
            self.assertNotEqual(word, metre_text((top, bottom, ())))
            self.assertEqual(metre_of(word), (top, bottom, groups))
        self.assertEqual(metre_text((6, 8, (3, 3))), "6/8:3+3")

    def test_all_small_fractions(self):
        for top in range(-2, 20):
            for bottom in range(-2, 20):
                good = bottom in MOST_TOPS and 1 <= top <= MOST_TOPS[bottom]
                expected = (top, bottom, ()) if good else None
                self.assertEqual(metre_of(str(top) + "/" + str(bottom)), expected, (top, bottom))

    def test_words_that_are_none(self):
        words = [
            "", "/", ":", "+", "4", "44", "4/", "/4", "4:", "4/4:", ":4", "4/:4", "/4:4", "4:4", "4/4:+", "4/4:2+",
            "4/4:+4", "4/4:2++2", "4/4:2+2+", "4/4:+2+2", "04/4", "4/04", "00/4", "4/4:04", "4/4:02+2", "4/4:2+02",
            "4/4:0+4", "4/4:4+0", "4/4:0", "4/4:5", "4/4:3", "4/4:2+3", "4/4:2+1", "4/4:1+1+1+1+1", "4/4:5+-1",
            "4/4:-4", "-4/4", "4/-4", "+4/4", "4/+4", "4/4/4", "4//4", "4/4/", "/4/4", "4/4:4:4", "4/4::4", "4/4:2:2",
            "4/4:4:", ":4/4", "4/4:2/2", "4/4:4/4", "4+4", "4/4+4", "2+2/4", "4/2+2", "4:2+2/4", "7/8:3,2,2",
            "7/8:3+2+2 ", " 7/8:3+2+2", "7/8: 3+2+2", "7/8 :3+2+2", "7/8:3 + 2+2", "7/8:3+2 +2", "4 /4", "4/ 4", " 4/4",
            "4/4 ", "4/4\n", "\n4/4", "4\n/4", "4/4:4\n", "7/8:3+2\n+2", "0/4", "4/0", "4/1", "4/3", "4/16", "4/32", "1/16",
            "5/2", "9/4", "13/8", "5/2:5", "9/4:9", "13/8:13", "13/8:6+7", "12/4", "a/4", "4/a", "4/4:a", "4/4:2+a", "4.0/4",
            "C", "c", "4-4", "4_/4", "1_2/8", "99999/8", "12345/4", "4/4:99999", "4/4:10000", "four/4", "(4,4,())",
            "/" * 20000, ":" * 20000, "4/4:" + "1+" * 9000 + "1", "1" * 20000, "4/4:" + "+" * 19000,
        ]
        for word in words:
            self.assertIsNone(metre_of(word), repr(word[:20]))

    def test_each_sign_put_into_a_word(self):
        signs = [chr(code) for code in range(32, 127) if chr(code) != chr(37)] + ["\n"]
        good = {metre_text(metre) for metre in plain_metres() + grouped_metres()}
        for word in ("4/4", "7/8:3+2+2", "2/2:1+1", "12/8", "11/8:5+6"):
            for place in range(len(word) + 1):
                for sign in signs + [""]:
                    for other in (word[:place] + sign + word[place:], word[:place] + sign + word[place + 1:]):
                        told = metre_of(other)
                        self.assertEqual(told is not None, other in good, repr(other))
                        if told is not None:
                            self.assertEqual(metre_text(told), other)

    def test_of_anything(self):
        for thing in no_texts() + [(4, 4, ()), ["4", "4"], b"4/4", ["4/4"]]:
            self.assertIsNone(metre_of(thing))


class TestBars(unittest.TestCase):
    def test_all(self):
        for metre in plain_metres() + grouped_metres():
            self.assertEqual(bar_grains(metre), metre[0] * {2: 48, 4: 24, 8: 12}[metre[1]])
            self.assertLessEqual(bar_grains(metre), 192)

    def test_some_by_hand(self):
        for word, grains in (("4/4", 96), ("3/4", 72), ("6/8", 72), ("4/2", 192), ("8/4", 192), ("1/8", 12),
                             ("12/8", 144), ("7/8:3+2+2", 84), ("1/2", 48)):
            self.assertEqual(bar_grains(metre_of(word)), grains, word)


class TestBeats(unittest.TestCase):
    def lengths(self, metre):
        return [end - begin for begin, end in beats(metre)]

    def test_eighths_without_groups(self):
        for top, units in BEATS_OF_EIGHTHS.items():
            self.assertEqual(rule_of((top, 8, ()))(1), units, top)
            self.assertEqual(self.lengths((top, 8, ())), [12 * many for many in units], top)

    def test_others_without_groups(self):
        for bottom, unit in ((2, 48), (4, 24)):
            for top in range(1, MOST_TOPS[bottom] + 1):
                self.assertEqual(rule_of((top, bottom, ()))(1), [1] * top)
                self.assertEqual(self.lengths((top, bottom, ())), [unit] * top)

    def test_all_with_groups(self):
        for top, bottom, groups in grouped_metres():
            self.assertEqual(rule_of((top, bottom, groups))(1), list(groups))
            self.assertEqual(self.lengths((top, bottom, groups)), [96 // bottom * group for group in groups])

    def test_one_behind_the_other_over_the_bar(self):
        for metre in plain_metres() + grouped_metres():
            told = beats(metre)
            self.assertIsInstance(told, list)
            self.assertTrue(all(isinstance(beat, tuple) and len(beat) == 2 for beat in told))
            self.assertEqual(told[0][0], 0)
            self.assertEqual(told[-1][1], bar_grains(metre))
            for one, other in zip(told, told[1:]):
                self.assertEqual(one[1], other[0])

    def test_some_by_hand(self):
        self.assertEqual(beats((4, 4, ())), [(0, 24), (24, 48), (48, 72), (72, 96)])
        self.assertEqual(beats((6, 8, ())), [(0, 36), (36, 72)])
        self.assertEqual(beats((7, 8, ())), [(0, 24), (24, 48), (48, 84)])
        self.assertEqual(beats((7, 8, (3, 2, 2))), [(0, 36), (36, 60), (60, 84)])
        self.assertEqual(beats((1, 8, ())), [(0, 12)])
        self.assertEqual(beats((3, 8, ())), [(0, 36)])
        self.assertEqual(beats((2, 2, (2,))), [(0, 96)])

    def test_rule_with_other_units(self):
        for unit in (1, 2, 3, 5, 12, 24, 48, 1000, 10 ** 40):
            for metre in plain_metres() + grouped_metres()[::9]:
                lengths = rule_of(metre)(unit)
                self.assertIsInstance(lengths, list)
                self.assertEqual(lengths, [unit * many for many in rule_of(metre)(1)])
                self.assertEqual(sum(lengths), unit * metre[0])

    def test_one_rule_asked_again(self):
        rule = rule_of((7, 8, ()))
        other = rule_of((3, 4, ()))
        self.assertEqual(rule(12), [24, 24, 36])
        self.assertEqual(other(24), [24, 24, 24])
        self.assertEqual(rule(1), [2, 2, 3])
        self.assertEqual(rule(12), [24, 24, 36])

    def test_told_lists_are_the_askers_own(self):
        for metre in ((7, 8, ()), (7, 8, (3, 2, 2)), (4, 4, ()), (6, 8, ())):
            rule = rule_of(metre)
            lengths = rule(1)
            before = list(lengths)
            lengths[0] = 99
            lengths.append(7)
            self.assertEqual(rule(1), before)
            self.assertEqual(rule_of(metre)(1), before)
            pairs = beats(metre)
            before = list(pairs)
            pairs.clear()
            self.assertEqual(beats(metre), before)


if __name__ == "__main__":
    unittest.main()

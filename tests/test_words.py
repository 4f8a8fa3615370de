import string
import unittest

from barwright.words import do_rise, is_among, is_syllable, is_whole, number_of, number_text, words_of
from oddments import no_numbers, no_texts

TEXT_SIGNS = [chr(code) for code in range(32, 127) if chr(code) != chr(37)] + ["\n"]


class TestWhole(unittest.TestCase):
    def test_whole_numbers(self):
        for number in (0, 1, -1, 9999, -9999, 10 ** 60, -10 ** 60):
            self.assertIs(is_whole(number), True)

    def test_truths_are_none(self):
        self.assertIs(is_whole(True), False)
        self.assertIs(is_whole(False), False)

    def test_nothing_else_is(self):
        for thing in no_numbers() + ["", "1", "-1", (), (1,), (1, 2)]:
            self.assertIs(is_whole(thing), False)


class TestAmong(unittest.TestCase):
    def test_both_bounds_and_just_beyond(self):
        for least, most in ((0, 6), (-2, 2), (-9999, 9999), (3, 3), (-5, -4)):
            for number in (least, most):
                self.assertIs(is_among(number, least, most), True, (number, least, most))
            for number in (least - 1, most + 1, least - 10 ** 9, most + 10 ** 9):
                self.assertIs(is_among(number, least, most), False, (number, least, most))

    def test_between(self):
        self.assertEqual([n for n in range(-9, 10) if is_among(n, -2, 3)], [-2, -1, 0, 1, 2, 3])

    def test_none_lies_between_where_least_is_above_most(self):
        for number in range(-3, 8):
            self.assertIs(is_among(number, 4, 1), False)

    def test_truths_are_none(self):
        for least, most in ((0, 1), (0, 0), (1, 1), (-5, 5)):
            self.assertIs(is_among(True, least, most), False)
            self.assertIs(is_among(False, least, most), False)

    def test_nothing_else_is(self):
        for thing in no_numbers() + ["", "1", (), (1,)]:
            self.assertIs(is_among(thing, -10, 10), False)


class TestRise(unittest.TestCase):
    def test_rising(self):
        for numbers in ([], [3], [1, 2], [-5, 0, 7, 8]):
            self.assertIs(do_rise(numbers), True, numbers)

    def test_not_rising(self):
        for numbers in ([1, 1], [2, 1], [1, 2, 2], [1, 3, 2], [3, 1, 2], [1, 2, 3, 0]):
            self.assertIs(do_rise(numbers), False, numbers)


class TestSyllable(unittest.TestCase):
    def test_ordinary(self):
        for text in ("la", "La", "LA", "a", "Z", "-", "--", "a-b", "-a", "a-", "hal-le-lu"):
            self.assertIs(is_syllable(text), True, text)

    def test_how_many_signs(self):
        for sign in ("a", "Q", "-"):
            for many in range(0, 30):
                self.assertIs(is_syllable(sign * many), 1 <= many <= 12, (sign, many))

    def test_each_sign_alone_and_within(self):
        good = set(string.ascii_letters + "-")
        for sign in TEXT_SIGNS:
            for text in (sign, "a" + sign, sign + "a", "la" + sign + "La"):
                self.assertIs(is_syllable(text), sign in good, repr(text))

    def test_nothing_else_is(self):
        for thing in no_texts() + [["l", "a"], ("l", "a"), b"la"]:
            self.assertIs(is_syllable(thing), False)


class TestNumbers(unittest.TestCase):
    def test_all_there_and_back(self):
        for number in range(-9999, 10000):
            word = number_text(number)
            self.assertEqual(word, ("-" if number < 0 else "") + format(abs(number), "d"))
            again = number_of(word)
            self.assertEqual(again, number)
            self.assertIs(is_whole(again), True)

    def test_named_ones(self):
        pairs = [("-9999", -9999), ("-1", -1), ("0", 0), ("9999", 9999), ("10", 10), ("-100", -100)]
        for word, number in pairs:
            self.assertEqual(number_of(word), number)
            self.assertEqual(number_text(number), word)

    def test_words_that_are_none(self):
        words = [
            "", "-", "--", "--1", "-0", "-00", "00", "000", "0000", "01", "007", "-01", "-007", "0001", "00001",
            "10000", "99999", "12345", "-10000", "-12345", "+1", "+0", "+", "+-1", "-+1", " 1", "1 ", " 1 ", " ",
            "- 1", "1 2", "1\n", "\n1", "\n", "1_0", "1_000", "1.0", "1e3", "0x1", "1/1", "a", "one", "1-", "1-2",
            "9" * 20000, "-" * 20000,
        ]
        for word in words:
            self.assertIsNone(number_of(word), repr(word[:20]))

    def test_each_sign_within(self):
        figures = "0123456789"
        for sign in TEXT_SIGNS:
            for word in ("1" + sign, "1" + sign + "1", "-2" + sign):
                expected = int(word) if sign in figures else None
                self.assertEqual(number_of(word), expected, repr(word))
            self.assertEqual(number_of(sign), int(sign) if sign in figures else None, repr(sign))

    def test_of_anything(self):
        for thing in no_texts():
            self.assertIsNone(number_of(thing))


class TestWordsOf(unittest.TestCase):
    def test_ordinary(self):
        self.assertEqual(words_of("at 3 metre 7/8:3+2+2"), ["at", "3", "metre", "7/8:3+2+2"])
        self.assertEqual(words_of("a b"), ["a", "b"])
        self.assertEqual(words_of("a bb ccc a"), ["a", "bb", "ccc", "a"])

    def test_one_word(self):
        self.assertEqual(words_of("voice"), ["voice"])
        self.assertEqual(words_of("-"), ["-"])

    def test_rows_without_words(self):
        for row in ("", " ", "  ", "   ", " a", "a ", " a ", "a  b", "a b  c", "  a", "a  ", "a b ", " a b"):
            self.assertIsNone(words_of(row), repr(row))

    def test_blanks_alone_part_words(self):
        for sign in TEXT_SIGNS:
            if sign != " ":
                self.assertEqual(words_of("a" + sign + "b c"), ["a" + sign + "b", "c"])

    def test_words_put_together_are_the_row(self):
        words = ["w" + str(place) for place in range(500)]
        for many in (1, 2, 3, 500):
            self.assertEqual(words_of(" ".join(words[:many])), words[:many])

    def test_of_anything(self):
        for thing in no_texts() + [["a", "b"], ("a", "b")]:
            self.assertIsNone(words_of(thing))

    def test_the_list_is_the_askers_own(self):
        told = words_of("a b c")
        told.append("d")
        told[0] = "x"
        self.assertEqual(words_of("a b c"), ["a", "b", "c"])
        self.assertEqual(told, ["x", "b", "c", "d"])


class TestHandedIn(unittest.TestCase):
    def test_nothing_handed_in_is_changed(self):
        for thing in ([1, [2]], {"a": [1]}, [], [0, 0, 4], ["a", "b"]):
            before = repr(thing)
            for ask in (is_whole, is_syllable, number_of, words_of):
                ask(thing)
            is_among(thing, 0, 9)
            self.assertEqual(repr(thing), before)


if __name__ == "__main__":
    unittest.main()

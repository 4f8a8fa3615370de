import unittest
from fractions import Fraction

from barwright.amounts import GRAINS, amount_text, common, grains_of, pair_of
from oddments import no_texts


def greatest_by_trying(one, other):
    return max(n for n in range(1, max(one, other) + 1) if one % n == 0 and other % n == 0)


class TestCommon(unittest.TestCase):
    def test_all_small_pairs(self):
        for one in range(0, 61):
            for other in range(0, 61):
                if one or other:
                    self.assertEqual(common(one, other), greatest_by_trying(one, other), (one, other))

    def test_edges(self):
        self.assertEqual(common(0, 7), 7)
        self.assertEqual(common(7, 0), 7)
        self.assertEqual(common(96, 96), 96)
        self.assertEqual(common(1, 1), 1)
        self.assertEqual(common(35, 96), 1)
        self.assertEqual(common(4608, 96), 96)

    def test_great_numbers(self):
        self.assertEqual(common(6 * 10 ** 40, 4 * 10 ** 40), 2 * 10 ** 40)


class TestAmounts(unittest.TestCase):
    def test_grains_to_a_whole_note(self):
        self.assertEqual(GRAINS, 96)

    def test_named_ones(self):
        for word, grains in (("3/8", 36), ("1/12", 8), ("2", 192), ("1", 96), ("1/96", 1), ("48", 4608)):
            self.assertEqual(grains_of(word), grains)
            self.assertEqual(amount_text(grains), word)

    def test_nought(self):
        self.assertEqual(pair_of(0), (0, 1))
        self.assertEqual(amount_text(0), "0")

    def test_all_written_and_read_back(self):
        for grains in range(1, 4609):
            fraction = Fraction(grains, 96)
            pair = pair_of(grains)
            self.assertIsInstance(pair, tuple)
            self.assertEqual(pair, (fraction.numerator, fraction.denominator))
            word = amount_text(grains)
            self.assertEqual(word, str(fraction))
            self.assertEqual(grains_of(word), grains)

    def test_beyond_what_is_read_is_written_all_the_same(self):
        self.assertEqual(pair_of(4609), (4609, 96))
        self.assertEqual(amount_text(4609), "4609/96")
        self.assertEqual(amount_text(96 * 20000), "20000")
        self.assertIsNone(grains_of("4609/96"))

    def test_other_terms(self):
        for word, grains in (("2/4", 48), ("2/1", 192), ("4/2", 192), ("96/96", 96), ("9999/9999", 96),
                             ("4608/96", 4608), ("9984/208", 4608), ("48/1", 4608), ("104/9984", 1)):
            self.assertEqual(grains_of(word), grains, word)

    def test_all_terms_up_to_a_bound(self):
        for top in list(range(-2, 60)) + [4607, 4608, 4609]:
            for bottom in range(-2, 200):
                expected = None
                if top > 0 and bottom > 0:
                    grains = Fraction(96 * top, bottom)
                    if grains.denominator == 1 and grains <= 4608:
                        expected = int(grains)
                word = str(top) + "/" + str(bottom)
                self.assertEqual(grains_of(word), expected, word)

    def test_words_that_are_none(self):
        words = [
            "", "0", "-0", "-1", "-2", "00", "02", "0/1", "0/4", "1/0", "0/0", "-1/4", "1/-4", "-1/-4", "1/01",
            "01/4", "3/08", "1/5", "1/64", "1/7", "3/64", "1/192", "95/97", "49", "49/1", "100", "9999", "4609/96",
            "97/2", "10000/10000", "1/10000", "12345/12345", "1/2/4", "1//4", "1/4/", "/1/4", "/", "//", "/4", "1/",
            "+1/4", "1/+4", "1 /4", "1/ 4", " 1/4", "1/4 ", "1/4\n", "\n1/4", "1:4", "1.5", "1/4.", "a", "a/b",
            "1/a", "a/4", " ", "-", "-/4", "/" * 20000, "1" * 20000,
        ]
        for word in words:
            self.assertIsNone(grains_of(word), repr(word[:20]))

    def test_of_anything(self):
        for thing in no_texts() + [(3, 8), ["3", "8"], Fraction(3, 8)]:
            self.assertIsNone(grains_of(thing))

    def test_nothing_handed_in_is_changed(self):
        thing = ["3", "8"]
        grains_of(thing)
        self.assertEqual(thing, ["3", "8"])


if __name__ == "__main__":
    unittest.main()

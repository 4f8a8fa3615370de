import copy
import itertools
import random
import unittest

from barwright.keys import key_lean
from barwright.marks import leans_for, marks_for
from barwright.pitches import pitch_of
from barwright.signs import sign_of
from samples import FEW_LINES, chance_pitches

MARKS_OF_LEANS = {-2: "--", -1: "-", 0: "=", 1: "+", 2: "++"}
LEANS_OF_MARKS = {mark: lean for lean, mark in MARKS_OF_LEANS.items()}
STEPS_OF_SHARPS = [3, 0, 4, 1, 5, 2, 6]


def pitches(words):
    return [pitch_of(word) for word in words.split(",")]


def heads(words):
    return sign_of(words + "/4", 96).heads


def row(at, voice, words, comes=False):
    return (at, voice, pitches(words), comes)


def head_row(at, voice, words, tied=None):
    return (at, voice, heads(words), None if tied is None else pitches(tied))


def lean_by_the_words(key, step):
    """From the row of sharps and of flats, as keys are learnt."""
    if key >= 0:
        return 1 if step in STEPS_OF_SHARPS[:key] else 0
    return -1 if step in STEPS_OF_SHARPS[key:] else 0


def marks_by_the_words(key, rows):
    """Looks for each head at all heads put ahead of it, anew."""
    put = sorted((at, voice, 7 * pitch[2] + pitch[0], place, number, pitch[1])
                 for number, (at, voice, told, comes) in enumerate(rows) if not comes
                 for place, pitch in enumerate(told))
    marks = [["" for pitch in told] for at, voice, told, comes in rows]
    for last, (at, voice, line, place, number, lean) in enumerate(put):
        ahead = [one[5] for one in put[:last] if one[2] == line and marks[one[4]][one[3]] != ""]
        counts = ahead[-1] if ahead else lean_by_the_words(key, line % 7)
        marks[number][place] = "" if counts == lean else MARKS_OF_LEANS[lean]
    return marks


def leans_by_the_words(key, rows):
    told = []
    for at, voice, row_heads, tied in rows:
        if tied is not None:
            told.append(tied)
            continue
        found = []
        for mark, step, octave in row_heads:
            ahead = [(other[0], other[1], other_head[0]) for other in rows if other[3] is None
                     for other_head in other[2]
                     if other_head[0] != "" and other_head[1:] == (step, octave) and other[:2] <= (at, voice)]
            found.append((step, LEANS_OF_MARKS[max(ahead)[2]] if ahead else lean_by_the_words(key, step), octave))
        told.append(found)
    return told


def chance_rows(chance, lines=FEW_LINES):
    """Rows of pitches at unlike times and in two voices, in any order."""
    places = chance.sample(list(itertools.product(range(0, 96, 12), (1, 2))), chance.randint(1, 16))
    return [(at, voice, chance_pitches(chance, lines), chance.randint(0, 4) == 0) for at, voice in places]


class StaffCase(unittest.TestCase):
    def told(self, ask, key, rows):
        handed = copy.deepcopy(rows)
        told = ask(key, rows)
        self.assertEqual(rows, handed)
        self.assertIs(told.__class__, list)
        self.assertEqual([one.__class__ for one in told], [list] * len(rows))
        return told


class TestMarksFor(StaffCase):
    def marks(self, key, rows):
        told = self.told(marks_for, key, rows)
        self.assertEqual(leans_for(key, self.written(rows, told)), [one[2] for one in rows])
        return told

    def written(self, rows, marks):
        return [(at, voice, [(mark, pitch[0], pitch[2]) for mark, pitch in zip(row_marks, told)], told if comes else None)
                for (at, voice, told, comes), row_marks in zip(rows, marks)]

    def test_no_rows(self):
        self.assertEqual(self.marks(0, []), [])

    def test_each_lean_without_sharps_and_flats(self):
        for word, mark in (("c--4", "--"), ("c-4", "-"), ("c4", ""), ("c+4", "+"), ("c++4", "++")):
            self.assertEqual(self.marks(0, [row(0, 1, word)]), [[mark]])

    def test_each_lean_with_sharps(self):
        for word, mark in (("f--4", "--"), ("f-4", "-"), ("f4", "="), ("f+4", ""), ("f++4", "++"), ("c4", ""),
                           ("c+4", "+")):
            self.assertEqual(self.marks(1, [row(0, 1, word)]), [[mark]])

    def test_each_lean_with_flats(self):
        for word, mark in (("b--4", "--"), ("b-4", ""), ("b4", "="), ("b+4", "+"), ("b++4", "++"), ("a4", ""),
                           ("a-4", "-")):
            self.assertEqual(self.marks(-2, [row(0, 1, word)]), [[mark]])

    def test_each_key_step_and_lean(self):
        for key, step, lean, octave in itertools.product(range(-7, 8), range(7), range(-2, 3), (0, 4, 8)):
            mark = "" if lean == lean_by_the_words(key, step) else MARKS_OF_LEANS[lean]
            self.assertEqual(self.marks(key, [(0, 1, [(step, lean, octave)], False)]), [[mark]])

    def test_a_mark_counts_on(self):
        self.assertEqual(self.marks(0, [row(0, 1, "c+4"), row(24, 1, "c+4"), row(48, 1, "c+4")]), [["+"], [""], [""]])
        self.assertEqual(self.marks(0, [row(0, 1, "c+4"), row(24, 1, "c4"), row(48, 1, "c4"), row(72, 1, "c+4")]),
                         [["+"], ["="], [""], ["+"]])
        self.assertEqual(self.marks(0, [row(0, 1, "c+4"), row(24, 1, "c++4"), row(48, 1, "c+4")]),
                         [["+"], ["++"], ["+"]])
        self.assertEqual(self.marks(3, [row(0, 1, "c+4"), row(24, 1, "c4"), row(48, 1, "c4"), row(72, 1, "c+4")]),
                         [[""], ["="], [""], ["+"]])
        self.assertEqual(self.marks(-2, [row(0, 1, "e--4"), row(12, 1, "e-4"), row(24, 1, "e-4"), row(36, 1, "e4")]),
                         [["--"], ["-"], [""], ["="]])

    def test_not_in_another_octave(self):
        self.assertEqual(self.marks(0, [row(0, 1, "c+4"), row(24, 1, "c+5"), row(48, 1, "c4"), row(72, 1, "c+5")]),
                         [["+"], ["+"], ["="], [""]])
        self.assertEqual(self.marks(0, [row(0, 1, "c+4,c+5")]), [["+", "+"]])
        self.assertEqual(self.marks(1, [row(0, 1, "f4"), row(24, 1, "f+5")]), [["="], [""]])

    def test_not_for_other_steps(self):
        self.assertEqual(self.marks(0, [row(0, 1, "c+4"), row(24, 1, "d4"), row(48, 1, "b3")]), [["+"], [""], [""]])

    def test_each_bar_by_itself(self):
        self.assertEqual(self.marks(0, [row(0, 1, "c+4")]), [["+"]])
        self.assertEqual(self.marks(0, [row(0, 1, "c+4")]), [["+"]])
        self.assertEqual(self.marks(0, [row(0, 1, "c4")]), [[""]])

    def test_heads_of_one_note(self):
        self.assertEqual(self.marks(2, [row(0, 1, "c4,f+4,a-4,c+5"), row(24, 1, "c4,e4,a-4,c5")]),
                         [["=", "", "-", ""], ["", "", "", "="]])

    def test_two_voices_at_one_time(self):
        self.assertEqual(self.marks(0, [row(0, 1, "c+4"), row(0, 2, "c4")]), [["+"], ["="]])
        self.assertEqual(self.marks(0, [row(0, 1, "c4"), row(0, 2, "c+4")]), [[""], ["+"]])
        self.assertEqual(self.marks(0, [row(0, 1, "c+4"), row(0, 2, "c+4")]), [["+"], [""]])

    def test_two_voices_at_unlike_times(self):
        self.assertEqual(self.marks(0, [row(0, 2, "c+4"), row(12, 1, "c+4"), row(24, 2, "c4"), row(36, 1, "c+4")]),
                         [["+"], [""], ["="], ["+"]])

    def test_rows_in_any_order(self):
        rows = [row(0, 1, "c+4"), row(0, 2, "c4,e-4"), row(24, 1, "e-4"), row(36, 2, "c+4"), row(48, 1, "e4")]
        marks = [["+"], ["=", "-"], [""], ["+"], ["="]]
        for places in itertools.permutations(range(5)):
            self.assertEqual(self.marks(0, [rows[place] for place in places]), [marks[place] for place in places])

    def test_time_goes_ahead_of_voice(self):
        self.assertEqual(self.marks(0, [row(12, 1, "c+4"), row(0, 2, "c+4")]), [[""], ["+"]])
        self.assertEqual(self.marks(0, [row(100, 1, "c+4"), row(20, 1, "c+4")]), [[""], ["+"]])

    def test_tones_that_come(self):
        self.assertEqual(self.marks(0, [row(0, 1, "c+4,e-4", True)]), [["", ""]])
        self.assertEqual(self.marks(0, [row(0, 1, "c+4", True), row(24, 1, "c+4"), row(48, 1, "c4")]),
                         [[""], ["+"], ["="]])
        self.assertEqual(self.marks(0, [row(0, 1, "c+4", True), row(24, 1, "c4")]), [[""], [""]])
        self.assertEqual(self.marks(0, [row(0, 1, "c+4", True), row(0, 2, "c4"), row(24, 2, "c+4")]),
                         [[""], [""], ["+"]])
        self.assertEqual(self.marks(0, [row(0, 2, "c4"), row(0, 1, "c+4"), row(24, 1, "c+4", True), row(48, 1, "c+4")]),
                         [["="], ["+"], [""], ["+"]])
        self.assertEqual(self.marks(1, [row(0, 1, "f4", True), row(24, 1, "f+4")]), [[""], [""]])

    def test_many(self):
        chance = random.Random(60)
        for case in range(600):
            key = chance.randint(-7, 7)
            rows = chance_rows(chance)
            self.assertEqual(self.marks(key, rows), marks_by_the_words(key, rows))

    def test_each_mark_is_wanted_and_none_lacks(self):
        chance = random.Random(601)
        for case in range(60):
            key = chance.randint(-7, 7)
            rows = chance_rows(chance)
            marks = self.marks(key, rows)
            for number, (at, voice, told, comes) in enumerate(rows):
                for place, pitch in enumerate(told):
                    if comes:
                        continue
                    other = copy.deepcopy(marks)
                    other[number][place] = "" if marks[number][place] else MARKS_OF_LEANS[pitch[1]]
                    heard = leans_for(key, self.written(rows, other))
                    # Without a wanted mark another pitch is heard; one more says what counts already.
                    self.assertEqual(heard == [one[2] for one in rows], marks[number][place] == "")

    def test_told_lists_are_the_askers_own(self):
        rows = [row(0, 1, "c+4", True), row(24, 1, "c+4"), row(48, 1, "e-4")]
        told = marks_for(0, rows)
        told[0].append("--")
        told[1].clear()
        told.pop()
        self.assertEqual(marks_for(0, rows), [[""], ["+"], ["-"]])


class TestLeansFor(StaffCase):
    def leans(self, key, rows):
        return self.told(leans_for, key, rows)

    def test_no_rows(self):
        self.assertEqual(self.leans(0, []), [])

    def test_without_a_mark(self):
        for key, step, octave in itertools.product(range(-7, 8), range(7), (0, 4, 8)):
            self.assertEqual(self.leans(key, [(0, 1, [("", step, octave)], None)]), [[(step, key_lean(key, step), octave)]])
            self.assertEqual(key_lean(key, step), lean_by_the_words(key, step))

    def test_each_mark_in_each_key(self):
        for key, step, mark in itertools.product(range(-7, 8), range(7), LEANS_OF_MARKS):
            self.assertEqual(self.leans(key, [(0, 1, [(mark, step, 4)], None)]), [[(step, LEANS_OF_MARKS[mark], 4)]])

    def test_the_last_mark_counts(self):
        self.assertEqual(
            self.leans(0, [head_row(0, 1, "c+4"), head_row(12, 1, "c4"), head_row(24, 1, "c=4"), head_row(36, 1, "c4"),
                           head_row(48, 1, "c--4"), head_row(60, 1, "c4,c5")]),
            [pitches(words) for words in ("c+4", "c+4", "c4", "c4", "c--4", "c--4,c5")])

    def test_by_time_then_by_voice(self):
        for places in itertools.permutations(range(4)):
            rows = [head_row(0, 1, "c+4"), head_row(0, 2, "c-4,d4"), head_row(12, 1, "c4"), head_row(24, 2, "c4")]
            told = [pitches(words) for words in ("c+4", "c-4,d4", "c-4", "c-4")]
            self.assertEqual(self.leans(0, [rows[place] for place in places]), [told[place] for place in places])
        self.assertEqual(self.leans(0, [head_row(12, 1, "c4"), head_row(0, 2, "c+4")]), [pitches("c+4"), pitches("c+4")])
        self.assertEqual(self.leans(0, [head_row(0, 2, "c4"), head_row(0, 1, "c+4")]), [pitches("c+4"), pitches("c+4")])
        self.assertEqual(self.leans(0, [head_row(0, 1, "c4"), head_row(0, 2, "c+4")]), [pitches("c4"), pitches("c+4")])

    def test_marks_that_no_tune_wants(self):
        self.assertEqual(self.leans(1, [head_row(0, 1, "f+4,c=5"), head_row(12, 1, "f+4,c5"), head_row(24, 1, "f4")]),
                         [pitches("f+4,c5"), pitches("f+4,c5"), pitches("f+4")])

    def test_not_in_another_octave(self):
        self.assertEqual(self.leans(0, [head_row(0, 1, "c+4"), head_row(12, 1, "c3,c4,c5")]),
                         [pitches("c+4"), pitches("c3,c+4,c5")])

    def test_pitches_that_come(self):
        self.assertEqual(
            self.leans(-3, [head_row(0, 1, "e4,g4", "e++4,g-4"), head_row(0, 2, "e4"), head_row(24, 1, "e4,g4")]),
            [pitches("e++4,g-4"), pitches("e-4"), pitches("e-4,g4")])
        self.assertEqual(
            self.leans(0, [head_row(0, 2, "c+4"), head_row(12, 1, "c4", "c-4"), head_row(24, 1, "c4")]),
            [pitches("c+4"), pitches("c-4"), pitches("c+4")])

    def test_many(self):
        chance = random.Random(61)
        marks = [""] * 3 + sorted(LEANS_OF_MARKS)
        for case in range(600):
            key = chance.randint(-7, 7)
            rows = [(at, voice, [(chance.choice(marks), pitch[0], pitch[2]) for pitch in told], None)
                    if not comes else (at, voice, [("", pitch[0], pitch[2]) for pitch in told], told)
                    for at, voice, told, comes in chance_rows(chance)]
            self.assertEqual(self.leans(key, rows), leans_by_the_words(key, rows))

    def test_told_lists_are_the_askers_own(self):
        rows = [head_row(0, 1, "c4,e4", "c+4,e-4"), head_row(24, 1, "g+4")]
        told = leans_for(0, rows)
        told[0].clear()
        told[1].append((0, 0, 4))
        told.reverse()
        self.assertEqual(rows[0][3], pitches("c+4,e-4"))
        self.assertEqual(leans_for(0, rows), [pitches("c+4,e-4"), pitches("g+4")])


if __name__ == "__main__":
    unittest.main()

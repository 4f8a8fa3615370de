import random
import re
import unittest

from barwright.errors import BadRow, BadTune, TuneError
from barwright.reading import read_tune, tune_text
from barwright.tunes import Tune
from oddments import Unfriendly, no_texts
from samples import C4, C5, D4, E4, FOUR, G4, SIX, THREE, chance_tune, everything, rest, tones

HEAD = ["metre 4/4", "key 0"]
GOOD = ["metre 3/4", "key -3", "at 2 metre 4/4", "at 2 key 1", "at 3 key 0", "voice", "c4 1/4 ( la", "r 1/2", "d4,f+4 1",
        "e-4 1/8 ( ) Ky-", "e4 1/8 )", "voice", "r 1/12", "g4 2", "a4 1/4"]


def text_of(rows):
    return "\n".join(rows)


def one_voice(*sounds):
    return text_of(HEAD + ["voice"] + list(sounds))


class ReadCase(unittest.TestCase):
    def caught(self, text):
        with self.assertRaises(TuneError, msg=text if isinstance(text, str) else "") as caught:
            read_tune(text)
        return caught.exception

    def bad_row(self, text, row):
        error = self.caught(text)
        self.assertIs(error.__class__, BadRow, text)
        self.assertEqual(error.row, row, text)
        self.assertIs(error.row.__class__, int)

    def bad_rows(self, rows, row):
        self.bad_row(text_of(rows), row)

    def bad_tune(self, text):
        self.assertIs(self.caught(text).__class__, BadTune, text)

    def sounds(self, *rows):
        return read_tune(one_voice(*rows)).sounds_told(1)


class TestWritten(ReadCase):
    def written(self, metres, keys, voices, rows):
        tune = Tune(metres, keys, voices)
        text = tune_text(tune)
        self.assertEqual(text, text_of(rows))
        again = read_tune(text)
        self.assertIsInstance(again, Tune)
        self.assertEqual(everything(again), everything(tune))
        self.assertEqual(tune_text(again), text)

    def test_one_tone(self):
        self.written([(1, FOUR)], [(1, 0)], [[tones()]], ["metre 4/4", "key 0", "voice", "c4 1/4"])

    def test_two_voices(self):
        self.written([(1, (7, 8, (3, 2, 2)))], [(1, -7)], [[tones(), rest(12), tones()], [rest(36), tones()]],
                     ["metre 7/8:3+2+2", "key -7", "voice", "c4 1/4", "r 1/8", "c4 1/4", "voice", "r 3/8", "c4 1/4"])

    def test_changes_by_bars(self):
        voice = [tones(length=384), tones(length=384)]
        self.written([(1, FOUR), (3, THREE), (4, FOUR)], [(1, 0), (2, 7), (4, -1), (8, 0)], [voice],
                     ["metre 4/4", "key 0", "at 2 key 7", "at 3 metre 3/4", "at 4 metre 4/4", "at 4 key -1",
                      "at 8 key 0", "voice", "c4 4", "c4 4"])

    def test_a_metre_ahead_of_a_key_at_each_bar(self):
        self.written([(1, FOUR), (2, THREE), (3, SIX)], [(1, 0), (2, 1), (3, 2)], [[tones(length=240)]],
                     ["metre 4/4", "key 0", "at 2 metre 3/4", "at 2 key 1", "at 3 metre 6/8", "at 3 key 2",
                      "voice", "c4 5/2"])

    def test_bars_by_number_and_not_by_sign(self):
        self.written([(1, FOUR), (10, THREE), (24, FOUR)], [(1, 0), (2, 1), (9, 2), (11, 3)],
                     [[rest(1872), tones(length=96)]],
                     ["metre 4/4", "key 0", "at 2 key 1", "at 9 key 2", "at 10 metre 3/4", "at 11 key 3",
                      "at 24 metre 4/4", "voice", "r 39/2", "c4 1"])

    def test_chords(self):
        self.written([(1, FOUR)], [(1, 0)], [[tones([C4, E4, G4, C5]), tones([(6, -2, 0), (0, 2, 8)]), tones([D4, E4, G4])]],
                     HEAD + ["voice", "c4,e-4,g4,c+5 1/4", "b--0,c++8 1/4", "d4,e-4,g4 1/4"])

    def test_slurs_and_words(self):
        self.written(
            [(1, FOUR)], [(1, 0)],
            [[tones(opens=True), tones(closes=True, opens=True), tones(closes=True), tones(word="la"),
              tones(opens=True, word="-"), tones(opens=True, closes=True, word="Ky-"),
              tones(closes=True, word="abcdefghijkl"), tones()]],
            HEAD + ["voice", "c4 1/4 (", "c4 1/4 ( )", "c4 1/4 )", "c4 1/4 la", "c4 1/4 ( -", "c4 1/4 ( ) Ky-",
                    "c4 1/4 ) abcdefghijkl", "c4 1/4"])

    def test_lengths_in_lowest_terms(self):
        for length, word in ((2, "1/48"), (3, "1/32"), (5, "5/96"), (8, "1/12"), (24, "1/4"), (36, "3/8"), (48, "1/2"),
                             (72, "3/4"), (84, "7/8"), (96, "1"), (97, "97/96"), (144, "3/2"), (192, "2"), (384, "4")):
            self.written([(1, FOUR)], [(1, 0)], [[tones(length=length), rest(length), tones()]],
                         HEAD + ["voice", "c4 " + word, "r " + word, "c4 1/4"])

    def test_long_rests(self):
        self.written([(1, (4, 2, ()))], [(1, 0)], [[rest(4584), tones()]],
                     ["metre 4/2", "key 0", "voice", "r 191/4", "c4 1/4"])
        self.written([(1, (4, 2, ()))], [(1, 0)], [[rest(4603), tones(length=5)]],
                     ["metre 4/2", "key 0", "voice", "r 4603/96", "c4 5/96"])

    def test_kept_tidy(self):
        tune = Tune([(1, FOUR)], [(1, 0)], [[rest(12), rest(12), tones(), rest(24)]])
        self.assertEqual(tune_text(tune), one_voice("r 1/4", "c4 1/4"))

    def test_96_sounds(self):
        self.written([(1, FOUR)], [(1, 0)], [[tones(length=24)] * 96], HEAD + ["voice"] + ["c4 1/4"] * 96)

    def test_many(self):
        chance = random.Random(33)
        for lengths in ([12, 24, 36, 48], [8, 16, 24, 96], range(2, 385)):
            for case in range(60):
                tune = chance_tune(chance, lengths)
                before = everything(tune)
                text = tune_text(tune)
                self.assertEqual(everything(tune), before)
                again = read_tune(text)
                self.assertEqual(everything(again), before)
                self.assertEqual(tune_text(again), text)

    def test_told_lists_are_of_no_matter(self):
        tune = read_tune(text_of(GOOD))
        text = tune_text(tune)
        tune.sounds_told(1)[0][1].append(G4)
        tune.metres_told().clear()
        tune.keys_told().append((4, 4))
        self.assertEqual(tune_text(tune), text)
        self.assertEqual(text, text_of(GOOD))


class TestRead(ReadCase):
    def test_all_of_it(self):
        tune = read_tune(text_of(GOOD))
        self.assertEqual(tune.metres_told(), [(1, THREE), (2, FOUR)])
        self.assertEqual(tune.keys_told(), [(1, -3), (2, 1), (3, 0)])
        self.assertEqual(tune.many(), 2)
        self.assertEqual(tune.sounds_told(1), [
            tones([C4], 24, "la", True), rest(48), tones([D4, (3, 1, 4)], 96), tones([E4], 12, "Ky-", True, True),
            tones([(2, 0, 4)], 12, "", False, True)])
        self.assertEqual(tune.sounds_told(2), [rest(8), tones([G4], 192), tones([(5, 0, 4)], 24)])

    def test_lengths_in_other_terms(self):
        for word, grains in (("2/4", 48), ("4/8", 48), ("48/96", 48), ("2/2", 96), ("96/96", 96), ("3/12", 24),
                             ("9999/9999", 96), ("500/1000", 48), ("4/1", 384), ("2/96", 2)):
            self.assertEqual(self.sounds("c4 " + word, "r " + word, "c4 1/4"),
                             [tones(length=grains), rest(grains), tones()])
            self.assertNotIn(word, tune_text(read_tune(one_voice("c4 " + word))))

    def test_what_isnt_tidy(self):
        self.assertEqual(self.sounds("r 1/4", "r 1/8", "c4 1/4", "r 48"), [rest(36), tones()])

    def test_words_that_look_like_others(self):
        for word in ("r", "c", "voice", "at", "key", "metre", "-", "--", "R"):
            self.assertEqual(self.sounds("c4 1/4 " + word), [tones(word=word)])
            self.assertEqual(self.sounds("d4 1/4 (", "c4 1/4 ) " + word),
                             [tones([D4], opens=True), tones(word=word, closes=True)])


class TestNoText(ReadCase):
    def test_nothing_else_is_a_tune(self):
        for thing in no_texts() + [Unfriendly(), [text_of(GOOD)], text_of(GOOD).encode(), tuple(GOOD), list(GOOD),
                                   read_tune(text_of(GOOD))]:
            self.bad_row(thing, 1)

    def test_empty_text(self):
        self.bad_row("", 1)
        self.bad_row("\n", 1)
        self.bad_row("\n" + text_of(GOOD), 1)
        self.bad_row(" ", 1)

    def test_what_is_handed_in_stays(self):
        thing = [["metre 4/4"]]
        self.bad_row(thing, 1)
        self.assertEqual(thing, [["metre 4/4"]])


class TestRowsWithoutWords(ReadCase):
    def test_an_empty_row_at_each_place(self):
        for place in range(len(GOOD) + 1):
            self.bad_rows(GOOD[:place] + [""] + GOOD[place:], place + 1)
            self.bad_rows(GOOD[:place] + [""] + GOOD[place + 1:], place + 1)
            self.bad_rows(GOOD[:place] + [" "] + GOOD[place:], place + 1)

    def test_a_line_end_at_the_end(self):
        self.bad_row(text_of(GOOD) + "\n", len(GOOD) + 1)
        self.bad_row(text_of(GOOD) + "\n\n", len(GOOD) + 1)
        self.bad_row("metre 4/4\n", 2)
        self.bad_row("metre 4/4\nkey 0\n", 3)
        self.bad_row("metre 4/4\nkey 0\nvoice\n", 4)
        self.bad_row("metre 4/4\nkey 0\nvoice\nc4 1/4\n", 5)
        self.bad_row("metre 4/4\nkey 0\nvoice\nc4 1/4\nvoice\n", 6)

    def test_blanks(self):
        for place, row in enumerate(GOOD):
            for bad in (" " + row, row + " ", "  " + row, " " + row + " "):
                self.bad_rows(GOOD[:place] + [bad] + GOOD[place + 1:], place + 1)
            if " " in row:
                for bad in (row.replace(" ", "  "), row.replace(" ", "  ", 1), row.replace(" ", "")):
                    self.bad_rows(GOOD[:place] + [bad] + GOOD[place + 1:], place + 1)

    def test_each_row_broken_at_each_place(self):
        for place, row in enumerate(GOOD):
            for sign in ("?", ".", "=", "\"", "/ /", "#", "_"):
                for within in range(len(row) + 1):
                    bad = row[:within] + sign + row[within:]
                    self.bad_rows(GOOD[:place] + [bad] + GOOD[place + 1:], place + 1)


class TestHead(ReadCase):
    def test_metres(self):
        for bad in ("metre", "metre 4", "metre 4/4 4/4", "metre 9/4", "metre 0/4", "metre 4/16", "metre 4/4:", "Metre 4/4",
                    "metre 04/4", "metre 4/4:2+1", "metre 4/4:0+4", "metre 4 4", "4/4", "metre key", "meter 4/4",
                    "metre 4/4 key 0", "at 1 metre 4/4", "at 2 metre 4/4", "voice", "c4 1/4", "r 1/4", "key 0"):
            self.bad_rows([bad] + GOOD[1:], 1)
            self.bad_rows([bad], 1)

    def test_keys(self):
        for bad in ("key", "key 8", "key -8", "key -0", "key +1", "key 00", "key 1 1", "key c", "Key 0", "key 4/4", "0",
                    "metre 4/4", "at 1 key 0", "at 2 key 1", "voice", "c4 1/4", "r 1/4"):
            self.bad_rows(GOOD[:1] + [bad] + GOOD[2:], 2)
            self.bad_rows(GOOD[:1] + [bad], 2)

    def test_exchanged(self):
        self.bad_rows([GOOD[1], GOOD[0]] + GOOD[2:], 1)

    def test_one_left_out_or_twice(self):
        self.bad_rows(GOOD[1:], 1)
        self.bad_rows(GOOD[:1] + GOOD[2:], 2)
        self.bad_rows(GOOD[:1] + GOOD, 2)
        self.bad_rows(GOOD[:2] + GOOD[1:], 3)
        self.bad_rows(GOOD[:2] + GOOD, 3)


class TestChanges(ReadCase):
    sounds_behind = ["voice"] + ["c4 4"] * 6

    def change(self, *rows):
        return HEAD + list(rows) + self.sounds_behind

    def test_bars(self):
        for bar in ("2", "3", "24"):
            tune = read_tune(text_of(self.change("at " + bar + " key 1")))
            self.assertEqual(tune.keys_told(), [(1, 0), (int(bar), 1)])
            tune = read_tune(text_of(self.change("at " + bar + " metre 2/2")))
            self.assertEqual(tune.metres_told(), [(1, FOUR), (int(bar), (2, 2, ()))])
        for bar in ("1", "0", "-1", "-2", "25", "26", "99", "9999", "10000", "02", "2.", "+2", "x", "2/1", "-0"):
            self.bad_rows(self.change("at " + bar + " key 1"), 3)
            self.bad_rows(self.change("at " + bar + " metre 2/2"), 3)
            self.bad_rows(self.change("at 2 key 1", "at " + bar + " metre 2/2"), 4)

    def test_that_are_none(self):
        for bad in ("at", "at 2", "at 2 key", "at 2 metre", "at 2 key 8", "at 2 key -8", "at 2 key -0", "at 2 metre 9/4",
                    "at 2 metre 4/16", "at 2 key 4/4", "at 2 metre 1", "at 2 key 1 1", "at 2 metre 2/2 2/2", "at key 1",
                    "At 2 key 1", "at 2 Key 1", "at 2 voice", "at 2 voice 1", "at 2 r 1/4", "key 1", "metre 3/4",
                    "c4 1/4", "r 1/4", "2 key 1", "at 2 2 key 1", "at at 2 key 1", "voices", "voice 1", "Voice"):
            self.bad_rows(self.change(bad), 3)
            self.bad_rows(self.change("at 2 metre 3/4", bad), 4)

    def test_orders_at_bars(self):
        for ahead, behind, is_good in (
                ("at 2 metre 2/2", "at 2 key 1", True), ("at 2 metre 2/2", "at 3 key 1", True),
                ("at 2 key 1", "at 3 metre 2/2", True), ("at 9 key 1", "at 10 key 2", True),
                ("at 2 key 1", "at 2 metre 2/2", False), ("at 2 key 1", "at 2 key 2", False),
                ("at 2 key 1", "at 2 key 1", False), ("at 2 metre 2/2", "at 2 metre 4/4", False),
                ("at 3 key 1", "at 2 key 2", False), ("at 3 metre 2/2", "at 2 key 1", False),
                ("at 3 key 1", "at 2 metre 2/2", False), ("at 3 metre 2/2", "at 2 metre 4/4", False),
                ("at 24 key 1", "at 3 metre 2/2", False), ("at 10 key 1", "at 9 key 2", False)):
            rows = self.change(ahead, behind)
            if is_good:
                self.assertEqual(tune_text(read_tune(text_of(rows))), text_of(rows))
            else:
                self.bad_rows(rows, 4)

    def test_three_at_one_bar(self):
        self.bad_rows(self.change("at 2 metre 2/2", "at 2 key 1", "at 2 metre 4/4"), 5)
        self.bad_rows(self.change("at 2 metre 2/2", "at 2 key 1", "at 2 key 2"), 5)
        self.bad_rows(self.change("at 2 metre 2/2", "at 3 key 1", "at 2 key 2"), 5)

    def test_behind_voice(self):
        self.bad_rows(HEAD + ["voice", "at 2 key 1", "c4 4"], 4)
        self.bad_rows(HEAD + ["voice", "c4 4", "at 2 key 1"], 5)
        self.bad_rows(HEAD + ["voice", "c4 4", "at 2 key 1", "c4 4"], 5)
        self.bad_rows(HEAD + ["voice", "c4 4", "voice", "at 2 metre 2/2"], 6)


class TestVoices(ReadCase):
    def test_a_third_one(self):
        self.bad_rows(HEAD + ["voice", "c4 1/4"] * 3, 7)
        self.bad_rows(GOOD + ["voice"], len(GOOD) + 1)
        self.bad_rows(GOOD + ["voice", "c4 1/4"], len(GOOD) + 1)

    def test_right_behind_another(self):
        self.bad_rows(HEAD + ["voice", "voice", "c4 1/4"], 4)
        self.bad_rows(HEAD + ["voice", "c4 1/4", "voice", "voice", "c4 1/4"], 6)
        self.bad_rows(HEAD + ["voice", "voice"], 4)

    def test_sounds_ahead_of_it(self):
        self.bad_rows(HEAD + ["c4 1/4"], 3)
        self.bad_rows(HEAD + ["r 1/4", "voice", "c4 1/4"], 3)

    def test_other_rows_behind_it(self):
        for bad in ("metre 4/4", "key 0", "at 2 key 1", "voice 2", "Voice", "voice,", "voices", "2", "end"):
            self.bad_rows(HEAD + ["voice", bad, "c4 1/4"], 4)
            self.bad_rows(HEAD + ["voice", "c4 1/4", bad], 5)

    def test_ends_too_early(self):
        for place in range(1, len(GOOD)):
            if GOOD[place - 1].split(" ")[0] in ("metre", "key", "at", "voice"):
                self.bad_rows(GOOD[:place], place + 1)
        self.bad_row("metre 4/4", 2)
        self.bad_row("metre 4/4\nkey 0", 3)
        self.bad_row("metre 4/4\nkey 0\nat 2 key 1", 4)
        self.bad_row("metre 4/4\nkey 0\nat 2 metre 3/4\nat 2 key 1", 5)
        self.bad_row("metre 4/4\nkey 0\nvoice", 4)
        self.bad_row("metre 4/4\nkey 0\nvoice\nc4 1/4\nvoice", 6)


class TestSounds(ReadCase):
    def bad_sound(self, row):
        self.bad_row(one_voice(row), 4)
        self.bad_row(one_voice(row, "c4 1/4"), 4)
        self.bad_row(one_voice("c4 1/4", "r 1/4", row, "?"), 6)
        self.bad_row(text_of(GOOD + [row]), len(GOOD) + 1)

    def test_rests(self):
        for bad in ("r", "r 0", "r 1/4 1/4", "r 1/4 la", "r 1/4 (", "r 1/4 )", "R 1/4", "rest 1/4", "r r", "r -1/4",
                    "r 1/7", "r 1/192", "r 49", "r 4609/96", "r 1/0", "r 0/4", "r 01/4", "r 1/04", "r 1/4/4", "r /4",
                    "r 1/", "r 24.", "r,c4 1/4", "r4 1/4", "r, 1/4", "1/4", "1/4 r"):
            self.bad_sound(bad)

    def test_pitches(self):
        for bad in ("h4", "C4", "c9", "c", "4", "c+-4", "c+++4", "c---4", "c=4", "c#4", "c4-", "c10", "c44", "cc4", ""):
            self.bad_sound(bad + " 1/4")
            self.bad_sound("c4," + bad + " 1/4")
            self.bad_sound(bad + ",c5 1/4")
        for bad in ("c4, 1/4", ",c4 1/4", "c4,,e4 1/4", "c4 e4 1/4", "c4, e4 1/4", "c4;e4 1/4", "c4.e4 1/4", "c4/e4 1/4"):
            self.bad_sound(bad)

    def test_lengths(self):
        for bad in ("0", "-1", "1/7", "1/192", "49", "4609/96", "1/0", "0/1", "01", "1/04", "1/2/2", "/2", "1/", "1/-4",
                    "4.", "c4", "(", "la", "10000", "1/10000", "x"):
            self.bad_sound("c4 " + bad)
            self.bad_sound("c4 " + bad + " la")
        self.bad_sound("c4")

    def test_words(self):
        for bad in ("abcdefghijklm", "-" * 13, "la1", "1/4", "0", "la.", "la,la", "_", "(la", "la)", "()", ")(", "((", "la\"",
                    ":la", "[", "]", "~", "c4", "la'"):
            self.bad_sound("c4 1/4 " + bad)
            self.bad_sound("c4 1/4 ( " + bad)
            self.bad_sound("c4 1/4 ) " + bad)
            self.bad_sound("c4 1/4 ( ) " + bad)

    def test_parts_in_another_order_or_twice(self):
        for bad in (") (", "la (", "la )", "( la )", "la ( )", ") la (", "( (", ") )", "( ( )", "( ) )", "( ) (",
                    "la la", "( la la", "( ) la la", ") ( la", "la la la", "( ( la", ") ) la"):
            self.bad_sound("c4 1/4 " + bad)
        for bad in ("1/4 c4", "( c4 1/4", "la c4 1/4", "c4 ( 1/4", "c4 la 1/4", "c4 1/4 1/4", "c4 c4 1/4"):
            self.bad_sound(bad)


class TestBadTune(ReadCase):
    def test_lines_that_dont_rise(self):
        for pitches in ("d4,c4", "c4,c4", "c4,c+4", "c4,e4,d4", "c5,c4", "b4,c4"):
            self.bad_tune(one_voice(pitches + " 1/4"))

    def test_five_pitches(self):
        self.assertEqual(len(self.sounds("c4,d4,e4,f4 1/4")[0][1]), 4)
        self.bad_tune(one_voice("c4,d4,e4,f4,g4 1/4"))
        self.bad_tune(one_voice("c4,d4,e4,f4,g4,a4,b4 1/4"))
        self.bad_tune(one_voice("c4," * 500 + "c4 1/4"))

    def test_lengths_beyond(self):
        for length in ("1/96", "385/96", "5", "48"):
            self.bad_tune(one_voice("c4 " + length))
            self.bad_tune(one_voice("c4 1/4", "c4 " + length))
        self.bad_tune(one_voice("r 1/96", "c4 1/4"))
        self.bad_tune(one_voice("c4 1/4", "r 48", "r 1/4"))

    def test_slurs(self):
        for signs in (["("], [")"], ["( )"], ["(", "("], ["(", ")", ")"], ["(", "( )"], ["", ")"], ["( )", ")"]):
            self.bad_tune(one_voice(*[("c4 1/4 " + sign).strip() for sign in signs]))
        self.bad_tune(text_of(HEAD + ["voice", "c4 1/4 (", "voice", "c4 1/4 )"]))

    def test_changes_that_change_nothing(self):
        sounds = ["voice"] + ["c4 4"] * 6
        for rows in (["at 2 key 0"], ["at 2 metre 4/4"], ["at 2 metre 3/4", "at 3 metre 3/4"],
                     ["at 2 key 1", "at 3 key 1"], ["at 2 metre 4/4", "at 2 key 1"]):
            self.bad_tune(text_of(HEAD + rows + sounds))
        read_tune(text_of(HEAD + ["at 2 metre 4/4:1+1+1+1"] + sounds))

    def test_changes_behind_the_last_bar(self):
        for change in ("key 1", "metre 3/4"):
            read_tune(text_of(HEAD + ["at 2 " + change, "voice", "c4 97/96"]))
            for bar in ("2", "3", "24"):
                self.bad_tune(text_of(HEAD + ["at " + bar + " " + change, "voice", "c4 1"]))
                self.bad_tune(text_of(HEAD + ["at " + bar + " " + change, "voice", "c4 1", "r 24"]))

    def test_more_than_24_bars(self):
        read_tune(one_voice(*["c4 4"] * 6))
        self.bad_tune(one_voice(*["c4 4"] * 6 + ["c4 1/48"]))
        self.bad_tune(one_voice("r 24", "c4 1/4"))

    def test_rests_alone(self):
        self.bad_tune(one_voice("r 1/4"))
        self.bad_tune(one_voice("r 1/4", "r 1"))
        self.bad_tune(text_of(HEAD + ["voice", "c4 1/4", "voice", "r 1/4"]))

    def test_more_than_96_sounds(self):
        read_tune(one_voice(*["c4 1/48"] * 96))
        self.bad_tune(one_voice(*["c4 1/48"] * 97))

    def test_rows_that_cant_stand_come_ahead(self):
        for bad in ("d4,c4 1/4", "c4,d4,e4,f4,g4 1/4", "c4 1/96", "c4 5", "r 1/96", "c4 1/4 )", "c4 1/4 (", "r 48"):
            self.bad_row(one_voice(bad, "c4 1/4", "?"), 6)
            self.bad_row(one_voice(bad, "c4 1/4", ""), 6)
            self.bad_row(one_voice(bad, "c4 1/4", "voice"), 7)
        self.bad_row(one_voice(*["c4 4"] * 100 + ["c4 1/7"]), 104)
        self.bad_row(text_of(HEAD + ["at 2 key 0", "at 2 metre 4/4", "voice", "c4 1"]), 4)
        self.bad_row(text_of(HEAD + ["at 24 key 0"]), 4)


class TestAnyRows(ReadCase):
    """Rows by chance, against a look at their kinds alone."""

    POOL = ["metre 4/4", "key 0", "at 2 metre 3/4", "at 2 key 1", "at 3 metre 2/2", "at 3 key 2", "voice", "c4 1", "r 1/2",
            "e4,g4 1/4 la", "", "c4", "at 25 key 1"]
    KINDS = "MKCCCCVSSS---"
    ORDER = {"at 2 metre 3/4": 0, "at 2 key 1": 1, "at 3 metre 2/2": 2, "at 3 key 2": 3}

    def first_bad(self, rows):
        ahead = -1
        kinds = ""
        for number, row in enumerate(rows, start=1):
            kind = self.KINDS[self.POOL.index(row)]
            if kind == "C":
                kind = "C" if self.ORDER[row] > ahead else "-"
                ahead = self.ORDER[row]
            kinds += kind
            if not re.fullmatch(r"M|MK|MKC*|MKC*V|MKC*VS+|MKC*VS+V|MKC*VS+VS+", kinds):
                return number
        return None if kinds[-1] == "S" else len(rows) + 1

    def test_many(self):
        chance = random.Random(34)
        good = 0
        for case in range(6000):
            rows = ["metre 4/4", "key 0"] if chance.randint(0, 9) else []
            rows = rows + [row for row in self.POOL[2:6] if chance.randint(0, 3) == 0]
            rows = rows + ["voice"] * (chance.randint(0, 3) > 0)
            pool = self.POOL if chance.randint(0, 1) else ["c4 1", "c4 1", "c4 1", "r 1/2", "voice", "e4,g4 1/4 la"]
            rows = rows + [chance.choice(pool) for row in range(chance.randint(0, 8))]
            rows = rows or ["voice"]
            bad = self.first_bad(rows)
            if bad is None:
                good += 1
                try:
                    read_tune(text_of(rows))
                except BadTune:
                    pass
            else:
                self.bad_rows(rows, bad)
        self.assertGreater(good, 500)


if __name__ == "__main__":
    unittest.main()

import itertools
import random
import re
import unittest

from barwright.lengths import all_pieces, piece_grains
from barwright.signs import (
    Back, Begin, Close, End, Ending, Fine, KeySign, MetreSign, Note, Pause, Sign, Whole, sign_of)
from oddments import Unfriendly, no_texts
from samples import ALL_METRES, GROUPED

LETTERS = "cdefgab"
MARKS = ("", "=", "+", "++", "-", "--")
PIECES = all_pieces(False) + all_pieces(True)
TRUTHS = list(itertools.product([False, True], repeat=4))
TEXT_SIGNS = [chr(code) for code in range(32, 127) if chr(code) != chr(37)] + ["\n"]

HEAD = ("", 0, 4)
CHORD = [("+", 0, 4), ("", 2, 4), ("--", 6, 4), ("=", 0, 5)]

# A note's word but for its lines, which have to rise.
NOTE_FORM = re.compile(
    r"[a-g](=|\+\+?|--?)?[0-8](,[a-g](=|\+\+?|--?)?[0-8]){0,3}"
    r"/([1248]\.{0,2}|16\.?|32)'?~?_?\(?\)?(:[A-Za-z-]{1,12})?\Z")


def note(heads=(HEAD,), piece=(4, 0, False), is_tied=False, is_beamed=False, word="", opens=False, closes=False):
    return Note(list(heads), piece, is_tied, is_beamed, word, opens, closes)


def all_sorts():
    """One sign of each sort, with what it tells, its word and its grains; whole rests last 84 grains."""
    return [
        (note(CHORD, (8, 1, False), True, True, "la", True, True),
         ("note", CHORD, (8, 1, False), True, True, "la", True, True), "c+4,e4,b--4,c=5/8.~_():la", 18),
        (Pause((16, 1, True)), ("pause", (16, 1, True)), "r/16.'", 6),
        (Whole(84), ("whole", 84), "R", 84),
        (KeySign(-3), ("key", -3), "k-3", 0),
        (MetreSign((7, 8, (3, 2, 2))), ("metre", (7, 8, (3, 2, 2))), "m7/8:3+2+2", 0),
        (Begin(), ("begin",), "|:", 0),
        (End(), ("end",), ":|", 0),
        (Ending(1), ("ending", 1), "[1", 0),
        (Ending(2), ("ending", 2), "[2", 0),
        (Close(), ("close",), "]", 0),
        (Fine(), ("fine",), "fine", 0),
        (Back(), ("back",), "back", 0),
    ]


class SignCase(unittest.TestCase):
    def there_and_back(self, sign, word, length=84):
        self.assertEqual(sign.written(), word)
        again = sign_of(word, length)
        self.assertIs(again.__class__, sign.__class__, word)
        self.assertEqual(again.told(), sign.told())
        self.assertEqual(again.written(), word)
        self.assertEqual(again.grains(), sign.grains())

    def none(self, word):
        self.assertIsNone(sign_of(word, 96), word)


class TestMade(SignCase):
    def test_all_sorts(self):
        for sign, told, word, grains in all_sorts():
            self.assertIsInstance(sign, Sign)
            self.assertEqual(sign.told(), told)
            self.assertIs(sign.told().__class__, tuple)
            self.assertEqual(sign.written(), word)
            self.assertEqual(sign.grains(), grains)
            self.there_and_back(sign, word)

    def test_each_is_straight_under_sign(self):
        sorts = {sign.__class__ for sign, told, word, grains in all_sorts()}
        self.assertEqual(len(sorts), 11)
        for sort in sorts:
            self.assertEqual(sort.__bases__, (Sign,))

    def test_fields(self):
        made = Note([HEAD, ("=", 1, 4)], (2, 1, True), True, False, "la", False, True)
        self.assertEqual(made.heads, [HEAD, ("=", 1, 4)])
        self.assertEqual(made.piece, (2, 1, True))
        self.assertIs(made.is_tied, True)
        self.assertIs(made.is_beamed, False)
        self.assertEqual(made.word, "la")
        self.assertIs(made.opens, False)
        self.assertIs(made.closes, True)
        made = Note([HEAD], (8, 0, False), False, True, "", True, False)
        self.assertEqual((made.is_tied, made.is_beamed, made.word, made.opens, made.closes),
                         (False, True, "", True, False))
        self.assertEqual(Pause((4, 2, False)).piece, (4, 2, False))
        self.assertEqual(Whole(72).length, 72)
        self.assertEqual(KeySign(-7).key, -7)
        self.assertEqual(MetreSign((4, 4, (2, 2))).metre, (4, 4, (2, 2)))
        self.assertEqual([Ending(1).number, Ending(2).number], [1, 2])

    def test_fields_by_name(self):
        made = Note(heads=[HEAD], piece=(8, 0, False), is_tied=True, is_beamed=False, word="a", opens=True, closes=False)
        self.assertEqual(made.told(), ("note", [HEAD], (8, 0, False), True, False, "a", True, False))
        self.assertEqual(Pause(piece=(8, 0, False)).told(), ("pause", (8, 0, False)))
        self.assertEqual(Whole(length=96).told(), ("whole", 96))
        self.assertEqual(KeySign(key=2).told(), ("key", 2))
        self.assertEqual(MetreSign(metre=(3, 4, ())).told(), ("metre", (3, 4, ())))
        self.assertEqual(Ending(number=2).told(), ("ending", 2))
        self.assertEqual(sign_of(word="R", length=48).told(), ("whole", 48))

    def test_what_notes_tell(self):
        for tied, joined, begins, ends in TRUTHS:
            for word in ("", "la"):
                made = Note([HEAD], (8, 0, False), tied, joined, word, begins, ends)
                self.assertEqual(made.told(), ("note", [HEAD], (8, 0, False), tied, joined, word, begins, ends))

    def test_grains(self):
        for piece in PIECES:
            self.assertEqual(note(piece=piece).grains(), piece_grains(piece))
            self.assertEqual(Pause(piece).grains(), piece_grains(piece))
        for piece, grains in (((1, 0, False), 96), ((1, 2, False), 168), ((8, 0, True), 8), ((32, 0, True), 2),
                              ((4, 1, False), 36)):
            self.assertEqual(note(CHORD, piece).grains(), grains)
            self.assertEqual(Pause(piece).grains(), grains)
        for length in (12, 96, 192):
            self.assertEqual(Whole(length).grains(), length)

    def test_changed_lists_change_no_note(self):
        heads = list(CHORD)
        made = Note(heads, (4, 0, False), False, False, "", False, False)
        before = made.told()
        heads.clear()
        self.assertEqual(made.told(), before)
        self.assertEqual(made.heads, CHORD)
        self.assertEqual(made.written(), "c+4,e4,b--4,c=5/4")
        told = made.told()
        told[1].pop()
        told[1][0] = HEAD
        self.assertEqual(made.told(), before)
        self.assertEqual(made.heads, CHORD)
        other = made.told()
        made.told()[1].clear()
        self.assertEqual(other, before)
        self.assertEqual(before[1], CHORD)

    def test_read_ones_are_the_askers_own(self):
        one = sign_of("c4,e4/4", 96)
        other = sign_of("c4,e4/4", 96)
        one.heads.clear()
        self.assertEqual(other.told(), note([HEAD, ("", 2, 4)]).told())
        self.assertEqual(sign_of("c4,e4/4", 96).told(), other.told())


class TestWords(SignCase):
    def test_all_heads(self):
        for step, mark, octave in itertools.product(range(7), MARKS, range(9)):
            self.there_and_back(note([(mark, step, octave)]), LETTERS[step] + mark + str(octave) + "/4")

    def test_one_to_four_heads(self):
        for many, word in ((1, "c+4"), (2, "c+4,e4"), (3, "c+4,e4,b--4"), (4, "c+4,e4,b--4,c=5")):
            self.there_and_back(note(CHORD[:many]), word + "/4")
        self.there_and_back(note([("", 0, 0), ("++", 6, 8)]), "c0,b++8/4")

    def test_all_pieces(self):
        for piece in PIECES:
            word = str(piece[0]) + "." * piece[1] + "'" * piece[2]
            self.there_and_back(note(piece=piece), "c4/" + word)
            self.there_and_back(Pause(piece), "r/" + word)
        for piece, word in (((1, 0, False), "1"), ((8, 1, False), "8."), ((8, 2, False), "8.."), ((8, 2, True), "8..'"),
                            ((16, 0, True), "16'"), ((32, 0, False), "32")):
            self.there_and_back(Pause(piece), "r/" + word)

    def test_what_stands_behind_the_piece(self):
        for tied, joined, begins, ends in TRUTHS:
            for syllable in ("", "la", "-", "Ky-", "abcdefghijkl"):
                for piece in ((4, 0, False), (8, 2, True)):
                    signs = "~" * tied + "_" * joined + "(" * begins + ")" * ends
                    word = "c+4,e4,b--4,c=5/" + "4" * (piece[0] == 4) + "8..'" * (piece[0] == 8) + signs
                    self.there_and_back(note(CHORD, piece, tied, joined, syllable, begins, ends),
                                        word + (":" + syllable if syllable else ""))

    def test_the_documents_own(self):
        self.there_and_back(note([("+", 0, 4), ("", 2, 4)], (8, 1, False), True, True, "la"), "c+4,e4/8.~_:la")

    def test_whole_rests(self):
        for length in (12, 36, 84, 96, 192):
            self.there_and_back(Whole(length), "R", length)

    def test_all_keys(self):
        for key in range(-30, 31):
            if -7 <= key <= 7:
                self.there_and_back(KeySign(key), "k" + str(key))
            else:
                self.none("k" + str(key))

    def test_all_metres(self):
        for metre in ALL_METRES + GROUPED:
            groups = ":" + "+".join(map(str, metre[2])) if metre[2] else ""
            self.there_and_back(MetreSign(metre), "m" + str(metre[0]) + "/" + str(metre[1]) + groups)

    def test_words_near_others(self):
        self.there_and_back(Whole(84), "R")
        self.there_and_back(Pause((4, 0, False)), "r/4")
        self.there_and_back(Fine(), "fine")
        self.there_and_back(note([("", 3, 4)]), "f4/4")
        self.there_and_back(Back(), "back")
        self.there_and_back(note([("", 6, 4)]), "b4/4")
        self.there_and_back(KeySign(4), "k4")
        self.there_and_back(MetreSign((4, 4, ())), "m4/4")
        self.there_and_back(Begin(), "|:")
        self.there_and_back(End(), ":|")


class TestNoWords(SignCase):
    def test_what_is_no_text(self):
        for thing in no_texts() + [Unfriendly(), Fine(), ("note", [HEAD], (4, 0, False), False, False, "", False, False),
                                   ("fine",), ["fine"], b"R", b"c4/4"]:
            self.assertIsNone(sign_of(thing, 96))

    def test_what_is_handed_in_stays(self):
        thing = [["fine"]]
        self.none(thing)
        self.assertEqual(thing, [["fine"]])

    def test_empty_and_single_signs(self):
        self.none("")
        for sign in TEXT_SIGNS:
            if sign not in "R]":
                self.none(sign)

    def test_parts_in_another_order_or_twice(self):
        for behind in ("_~", "(~", ")~", "(_", ")_", ")(", "~~", "__", "((", "))", "~_~", "~_)(", "()(", ":la~", ":la_",
                       ":la(", ":la)", ":la:la", "::la", "~:la_", ".", "'.", "''", "'.'", "~.", "~'", "_.", "(.", ".~.",
                       ".'.", "~4", ":la:", "~ _", " ", " :la"):
            for piece in ("4.", "8.'", "4'"):
                if behind != "." or piece != "4.":
                    self.none("c4/" + piece + behind)
                    self.none("c4,e4/" + piece + behind)
        for word in ("4/c4", "/4", "c4/", "c4", "c4/4/4", "c4//4", "c4/~4", "c4~/4", "c4(/4", "c4:la/4", "~c4/4", "c4/:la",
                     "c4/.4", "c4/'4", "c4,/4", ",c4/4", "c4,,e4/4", "c4/4,e4/4", "c4 /4", "c4/ 4", "c4, e4/4"):
            self.none(word)

    def test_pauses_bear_nothing_else(self):
        for word in ("r", "r/", "r4", "r/4~", "r/4_", "r/4(", "r/4)", "r/4:la", "r/4:", "r//4", "r/4/4", "r/0", "r/3", "r4/4",
                     "r/04", "r,c4/4", "c4,r/4", "R/4", "r/R", "r/4 ", "RR", "R4", "r/-4", "R:la", "r/r/4"):
            self.none(word)

    def test_heads(self):
        for head in ("h4", "C4", "c9", "c", "4", "c+-4", "c+++4", "c---4", "c==4", "c=+4", "c-=4", "c#4", "c4+", "+c4", "c10",
                     "c44", "cc4", "", " c4", "c4 ", "c-10", "c.4"):
            self.none(head + "/4")
            self.none("c0," + head + "/4")
            self.none(head + ",b8/4")

    def test_five_heads(self):
        self.none("c4,d4,e4,f4,g4/4")
        self.none("c4,d4,e4,f4,g4,a4/4")
        self.none(",".join(["c4"] * 3000) + "/4")

    def test_lines_that_dont_rise(self):
        for heads in ("d4,c4", "c4,c4", "c4,c+4", "c-4,c=4", "c4,e4,d4", "c4,e4,e4", "c5,c4", "c5,b4", "c4,d4,e4,d5,e5"):
            self.none(heads + "/4")
        for heads in ("b4,c5", "b++4,c--5", "c4,d4", "c8,d8"):
            self.assertEqual(sign_of(heads + "/4", 96).written(), heads + "/4")

    def test_pieces(self):
        for piece in ("0", "3", "6", "64", "5", "12", "-4", "+4", "04", "4...", "16..", "32.", "16..'", "32.'", "4...'", ".4",
                      "4'.", "'", ".", "", "4 ", "44", "1/4", "x", "4.'.", "128", "9999", "40000"):
            self.none("c4/" + piece)
            self.none("r/" + piece)

    def test_syllables(self):
        for syllable in ("", "abcdefghijklm", "-" * 13, "la la", "la1", "la.", "la_", "4", ":", "la\n", " la", "la ", "(", "'"):
            self.none("c4/4:" + syllable)
            self.none("c4/4~_():" + syllable)

    def test_others(self):
        for word in ("[", "[0", "[3", "[-1", "[01", "[1]", "[ 1", "[1 ", "[12", "1", "]]", "|", ":", "||", "::", "|:|", ":|:",
                     "|:\n", "Fine", "FINE", "fin", "fines", "fine ", "Back", "backs", "bac", "BACK", "k", "k8", "k-8", "k-0",
                     "k+1", "k01", "k 1", "k1 ", "K1", "kk1", "k1/4", "k--1", "m", "m4", "m9/4", "m4/16", "m0/4", "m4/4:",
                     "m4/4:3", "m4/4:0+4", "m04/4", "M4/4", "m4/4 ", "m 4/4", "mm4/4", "m4/4:2+2+", "key", "metre", "begin",
                     "end", "close", "page", "row", "voice", "2"):
            self.none(word)

    def test_words_by_chance(self):
        chance = random.Random(51)
        good = [word for sign, told, word, grains in all_sorts()] + [
            "c4/4", "c+4,e4/8.~_:la", "r/8", "k0", "k7", "m4/4", "m12/8", "b--8/32'", "a4,b4/1..(:a", "f0/16.)", "g=3/2'_"]
        seen = {True: 0, False: 0}
        for case in range(30000):
            word = self.changed(chance, chance.choice(good))
            sign = sign_of(word, 96)
            self.assertEqual(sign is not None, self.is_one(word), word)
            seen[sign is not None] += 1
            if sign is not None:
                self.assertEqual(sign.written(), word)
        self.assertGreater(min(seen.values()), 2000)

    def changed(self, chance, word):
        signs = list(word)
        for change in range(chance.randint(0, 2)):
            place = chance.randint(0, len(signs))
            kind = chance.randint(0, 2)
            if kind < 2:
                likely = list("cdefgab012345678.,'/~_():=+-rRkm[]|")
                signs[place:place + kind] = [chance.choice(chance.choice([likely, TEXT_SIGNS]))]
            else:
                signs[place:place + 1] = []
        return "".join(signs)

    def is_one(self, word):
        if word in ("R", "|:", ":|", "[1", "[2", "]", "fine", "back") or re.match(r"k(0|-?[1-7])\Z", word):
            return True
        if re.match(r"r/([1248]\.{0,2}|16\.?|32)'?\Z", word):
            return True
        if word.startswith("m"):
            return self.is_metre_word(word[1:])
        if not NOTE_FORM.match(word):
            return False
        lines = [7 * int(head[-1]) + LETTERS.index(head[0]) for head in word.partition("/")[0].split(",")]
        return lines == sorted(set(lines))

    def is_metre_word(self, word):
        found = re.match(r"([1-9]|1[0-2])/([248])(:[1-9][0-9]{0,3}(\+[1-9][0-9]{0,3})*)?\Z", word)
        if not found or int(found[1]) * 96 // int(found[2]) > 192:
            return False
        return not found[3] or sum(map(int, found[3][1:].split("+"))) == int(found[1])


if __name__ == "__main__":
    unittest.main()

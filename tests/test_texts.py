"""Systems and tuples of words, written and read."""

import itertools
import re
import unittest

from gapwords.errors import NoText, Thrice, TooGreat
from gapwords.texts import read_system, read_words, show_system, show_words
from helper import refusal_of, rows, things_of_other_kinds

REFUSED = (NoText,)
SYSTEMS = {
    "=": (("", ""),),
    "aX=Xb": (("aX", "Xb"),),
    "aX=Xb; YcY=": (("aX", "Xb"), ("YcY", "")),
    "=; =": (("", ""), ("", "")),
    "=a; X=; =": (("", "a"), ("X", ""), ("", "")),
    "ABCDEF=FEDCBA": (("ABCDEF", "FEDCBA"),),
    "a=z; A=Z; =b; c=; XY=YX; =": (("a", "z"), ("A", "Z"), ("", "b"), ("c", ""), ("XY", "YX"), ("", "")),
    "a" * 20 + "=" + "b" * 20: (("a" * 20, "b" * 20),),
}
NOT_SO_WRITTEN = (
    "", " ", "\n", ";", "; ", " ;",
    " aX=Xb", "aX=Xb ", "aX =Xb", "aX= Xb", "a X=Xb", "aX = Xb", "aX=X b",
    "aX=Xb;YcY=", "aX=Xb;  YcY=", "aX=Xb ; YcY=", "aX=Xb YcY=", "aX=Xb;; YcY=", "aX=Xb, YcY=", "aX=Xb ;YcY=",
    "aX", "aXXb", "aX=Xb; YcY", "aX; YcY=", "aX==Xb", "aX=Xb=", "=aX=Xb", "aX=Xb; YcY==", "a=b=c", "==",
    "aX=Xb;", "aX=Xb; ", ";aX=Xb", "; aX=Xb", "aX=Xb; ; YcY=", "=;", "=; ",
    "aX=Xb\n", "\naX=Xb", "aX=\nXb", "aX=Xb;\nYcY=", "aX=Xb\nYcY=", "aX=Xb\r\n", "aX=Xb;\tYcY=",
    "aX=Xb1", "1=1", "a2X=Xb", "aX=Xb; 3", "a-X=b", "a_=_a", "aX=Xb.", "'aX=Xb'", "(a=b)", "aX=Xb~", "[=]", "@=`", "{=}",
    "\u00e9=\u00e9", "\uff41=a", "a\u00a0=b", "a=b\u2003",
)


class SystemsAsTexts(unittest.TestCase):
    def test_written(self):
        for text, system in SYSTEMS.items():
            self.assertEqual(show_system(system), text)

    def test_read(self):
        for text, system in SYSTEMS.items():
            self.assertEqual(read_system(text), system)

    def test_all_small_systems_written_and_read_again(self):
        sides = [side for side in rows("abX", 2) if side.count("X") < 2]
        for left, right in itertools.product(sides, repeat=2):
            for system in (((left, right),), ((left, right), ("Yc", "Yd")), (("", "Z"), (right, left), ("", ""))):
                self.assertEqual(read_system(show_system(system)), system)

    def test_one_to_six_equations(self):
        for many in range(1, 7):
            text = "; ".join(["ab=c"] * many)
            self.assertEqual(read_system(text), (("ab", "c"),) * many)
            self.assertEqual(show_system((("ab", "c"),) * many), text)

    def test_none_and_seven_equations(self):
        for many in (0, 7, 8, 50):
            for equation in ("ab=c", "="):
                self.assertEqual(refusal_of(read_system, "; ".join([equation] * many)), REFUSED)

    def test_no_texts(self):
        for number, thing in enumerate(things_of_other_kinds() + [(), ("aX=Xb",), (("aX", "Xb"),)]):
            with self.subTest(number=number):
                self.assertEqual(refusal_of(read_system, thing), REFUSED)

    def test_texts_not_so_written(self):
        for text in NOT_SO_WRITTEN:
            with self.subTest(text=text):
                self.assertEqual(refusal_of(read_system, text), REFUSED)

    def test_all_small_texts(self):
        written = re.compile(r"[aX]*=[aX]*(; [aX]*=[aX]*)*")
        for text in rows("aX=; ", 6):
            told = refusal_of(read_system, text)
            if not written.fullmatch(text):
                self.assertEqual(told, REFUSED)
            elif text.count("X") > 2:
                self.assertEqual(told[:2], (Thrice, "X"))
            else:
                self.assertEqual(told, (None, tuple(tuple(part.split("=")) for part in text.split("; "))))

    def test_an_unknown_a_third_time(self):
        self.assertEqual(refusal_of(read_system, "XX=X"), (Thrice, "X", 0, 1, 0))
        self.assertEqual(refusal_of(read_system, "aX=Xb; YcY=; bbY=Z"), (Thrice, "Y", 2, 0, 2))
        self.assertEqual(refusal_of(read_system, "X=; =X; =; =; =; =aX"), (Thrice, "X", 5, 1, 1))
        self.assertEqual(refusal_of(read_system, "XXX=" + "a" * 50), (Thrice, "X", 0, 0, 2))
        self.assertEqual(refusal_of(read_system, "ABCDEFG=GG"), (Thrice, "G", 0, 1, 1))

    def test_too_many(self):
        self.assertEqual(refusal_of(read_system, "a" * 20 + "=" + "b" * 21), (TooGreat, 41, 40))
        self.assertEqual(refusal_of(read_system, "; ".join(["abcd=abcd"] * 6)), (TooGreat, 48, 40))
        self.assertEqual(refusal_of(read_system, "ABC=DEFG"), (TooGreat, 7, 6))
        self.assertEqual(refusal_of(read_system, "ABCDEFG=" + "a" * 34), (TooGreat, 41, 40))

    def test_how_it_is_written_is_refused_first(self):
        for text in ("XXX=; a", "XXX", "XXX==", "; ".join(["XXX="] * 7), "a" * 41, "a" * 41 + "= ", "ABCDEFG", "XXX=;"):
            self.assertEqual(refusal_of(read_system, text), REFUSED)


class WordsAsTexts(unittest.TestCase):
    written = (
        ("", (), ""),
        ("X", ("",), "X="),
        ("X", ("ab",), "X=ab"),
        ("XY", ("ab", ""), "X=ab Y="),
        ("XY", ("", ""), "X= Y="),
        ("AZ", ("z", "a"), "A=z Z=a"),
        ("ABC", ("", "b", ""), "A= B=b C="),
        ("ABYZ", ("a", "b", "y", "z"), "A=a B=b Y=y Z=z"),
        ("ABCDE", ("e", "d", "c", "b", "a"), "A=e B=d C=c D=b E=a"),
        ("UVWXYZ", ("", "a", "bb", "", "ccc", ""), "U= V=a W=bb X= Y=ccc Z="),
    )

    def test_written(self):
        for names, words, text in self.written:
            self.assertEqual(show_words(names, words), text)

    def test_read(self):
        for names, words, text in self.written:
            self.assertEqual(read_words(names, text), words)

    def test_written_and_read_again(self):
        for names in ("", "B", "BQ", "BQX"):
            for words in itertools.product(list(rows("az", 2)), repeat=len(names)):
                self.assertEqual(read_words(names, show_words(names, words)), words)

    def test_long_words(self):
        words = ("ab" * 5000, "", "c" * 401)
        text = "X=" + "ab" * 5000 + " Y= Z=" + "c" * 401
        self.assertEqual(show_words("XYZ", words), text)
        self.assertEqual(read_words("XYZ", text), words)

    def assert_refused(self, names, *texts):
        for text in texts:
            with self.subTest(names=names, text=text):
                self.assertEqual(refusal_of(read_words, names, text), REFUSED)

    def test_no_texts(self):
        for names in ("", "X", "XY", "UVWXYZ"):
            for number, thing in enumerate(things_of_other_kinds() + [(), ("ab",), ("ab", ""), ("X=ab", "Y=")]):
                with self.subTest(names=names, number=number):
                    self.assertEqual(refusal_of(read_words, names, thing), REFUSED)

    def test_a_word_more_or_fewer(self):
        self.assert_refused("", "X=", "X=a", "=", "a")
        self.assert_refused("X", "", "X= Y=", "X=a Y=b", "X=a X=a", "X=a X=")
        self.assert_refused("XY", "", "X=a", "Y=b", "X=a Y=b Z=c", "X=a Y=b Y=b")
        self.assert_refused("UVWXYZ", "U= V= W= X= Y=", "V= W= X= Y= Z=", "U= V= W= X= Y= Z= Z=")

    def test_names_exchanged_or_others(self):
        self.assert_refused("XY", "Y=a X=b", "X=a X=b", "Y=a Y=b", "X=a Z=b", "W=a Y=b", "x=a Y=b")
        self.assert_refused("ABC", "A=a C=c B=b", "C= B= A=")
        self.assert_refused("X", "Y=a", "=a", "XX=a", "x=a")

    def test_great_letters_and_what_is_no_sign(self):
        self.assert_refused("X", "X=A", "X=aB", "X=X", "X=Xa", "X=1", "X=a1", "X=a-", "X=`", "X={", "X=\u00e9", "X=a;")
        self.assert_refused("XY", "X=a Y=B", "X=Y Y=", "X=a; Y=b", "X=a,Y=b", "X=a;Y=b")

    def test_a_blank_more_or_fewer(self):
        self.assert_refused("", " ", "  ")
        self.assert_refused("X", " X=a", "X=a ", "X =a", "X= a", "X=a b", " ")
        self.assert_refused("XY", "X=a  Y=b", " X=a Y=b", "X=a Y=b ", "X=aY=b", "X= a Y=b", "X=a Y= b", "X=  Y=")

    def test_line_ends_and_signs_of_equality(self):
        self.assert_refused("", "\n", "\t")
        self.assert_refused("X", "X=a\n", "\nX=a", "X=\n", "X==a", "X=a=", "X", "Xa", "a", "X=a=b", "X-a")
        self.assert_refused("XY", "X=a\nY=b", "X=a\tY=b", "X=a Yb", "Xa Y=b")

    def test_all_small_texts(self):
        for names in ("", "X", "XY"):
            written = re.compile(" ".join(name + "=([a]*)" for name in names))
            for text in rows("aXY= ", 6):
                found = written.fullmatch(text)
                expected = (None, found.groups()) if found else REFUSED
                self.assertEqual(refusal_of(read_words, names, text), expected)

"""How many tuples of words there are, and the answers to a length."""

import itertools
import unittest

from gapwords.errors import TooGreat
from gapwords.tables import answers_to, least_to, lengths_to, tuples_to
from gapwords.texts import read_system
from helper import (OF_501_ROOMS, answers_by_trying, dealt_systems, fillings, kinds_within, refusal_of,
                    systems_by_answer, unknowns_of)

ASKED = (answers_to, least_to, lengths_to)
SIGNS = "abcdef"


class HowMany(unittest.TestCase):
    def test_by_hand(self):
        for k, s, m, told in (
            (0, 1, 0, 1), (0, 2, 5, 1), (0, 30, 20, 1), (1, 1, 0, 1), (5, 3, 0, 1), (1, 1, 4, 5), (1, 2, 1, 3),
            (1, 2, 2, 7), (1, 3, 2, 13), (2, 1, 1, 3), (2, 1, 2, 6), (2, 2, 1, 5), (2, 2, 2, 17), (3, 1, 2, 10),
            (3, 2, 1, 7), (6, 1, 1, 7), (6, 6, 1, 37), (1, 1, 20, 21), (1, 2, 20, 2 ** 21 - 1), (1, 2, 11, 4095),
        ):
            with self.subTest(k=k, s=s, m=m):
                self.assertEqual(tuples_to(k, s, m), told)

    def test_counted(self):
        for k, s, m in itertools.product(range(5), range(1, 4), range(5)):
            self.assertEqual(tuples_to(k, s, m), len(set(fillings("KXYZ"[:k], "abc"[:s], m))))

    def test_by_one_word_less(self):
        for k, s, m in itertools.product((1, 2, 7, 30), (1, 2, 7, 30), (1, 2, 13, 20)):
            # The last word is none, or there is a sign at its end to leave out.
            self.assertEqual(tuples_to(k, s, m), tuples_to(k - 1, s, m) + s * tuples_to(k, s, m - 1))
            self.assertIs(type(tuples_to(k, s, m)), int)


class AnswersToALength(unittest.TestCase):
    def test_by_hand(self):
        for text, signs, most, told in (
            ("=", "a", 0, ((),)),
            ("=", "abcdef", 20, ((),)),
            ("ab=ab", "c", 3, ((),)),
            ("a=b", "ab", 3, ()),
            ("aX=Xa", "ab", 3, (("",), ("a",), ("aa",), ("aaa",))),
            ("aX=Xa", "b", 3, (("",),)),
            ("aX=Xa", "a", 0, (("",),)),
            ("X=ab", "ab", 1, ()),
            ("X=ab", "ab", 2, (("ab",),)),
            ("X=ab", "ac", 2, ()),
            ("X=ab", "abz", 2, (("ab",),)),
            ("X=X", "cz", 1, (("",), ("c",), ("z",))),
            ("abX=Xba", "ab", 5, (("a",), ("aba",), ("ababa",))),
            ("aX=Xb", "ab", 5, ()),
            ("XY=YX", "ab", 2, (("", ""), ("", "a"), ("", "b"), ("a", ""), ("b", ""), ("", "aa"), ("", "ab"),
                                ("", "ba"), ("", "bb"), ("a", "a"), ("aa", ""), ("ab", ""), ("b", "b"), ("ba", ""),
                                ("bb", ""))),
            ("XY=ab", "ab", 2, (("", "ab"), ("a", "b"), ("ab", ""))),
            ("YX=ab", "ab", 8, (("", "ab"), ("ab", ""), ("b", "a"))),
        ):
            with self.subTest(text=text, signs=signs, most=most):
                system = read_system(text)
                self.assertEqual(answers_to(system, signs, most), told)
                self.assertEqual(least_to(system, signs, most), told[0] if told else None)
                self.assertEqual(lengths_to(system, signs, most),
                                 tuple(sorted({tuple(map(len, words)) for words in told})))

    def test_lengths_by_hand(self):
        self.assertEqual(lengths_to(read_system("XY=YX"), "ab", 1), ((0, 0), (0, 1), (1, 0)))
        self.assertEqual(lengths_to(read_system("XY=aab"), "ab", 5), ((0, 3), (1, 2), (2, 1), (3, 0)))
        self.assertEqual(lengths_to(read_system("abX=Xba"), "ab", 6), ((1,), (3,), (5,)))
        self.assertEqual(lengths_to(read_system("aX=Xb"), "ab", 6), ())
        self.assertEqual(lengths_to(read_system("="), "a", 6), ((),))

    def test_all_and_no_others_as_found_by_trying(self):
        many = 0
        for turn, system in enumerate(dealt_systems(23, 300)):
            signs, most = (("ab", 3), ("b", 4), ("ac", 3), ("abc", 2), ("xyz", 2), ("ab", 0))[turn % 6]
            if refusal_of(answers_to, system, signs, most)[0] is None:
                told = answers_to(system, signs, most)
                self.assertEqual(told, answers_by_trying(system, signs, most))
                self.assertEqual(least_to(system, signs, most), told[0] if told else None)
                self.assertEqual(lengths_to(system, signs, most), tuple(sorted({tuple(map(len, row)) for row in told})))
                self.assertLessEqual(kinds_within(told), {tuple, str})
                self.assertLessEqual(kinds_within(lengths_to(system, signs, most)), {tuple, int})
                many += len(told)
        self.assertGreater(many, 500)

    def test_in_order_each_once(self):
        for system in systems_by_answer(24, 30, 60)[True]:
            told = answers_to(system, "ab", 3)
            places = [(sum(map(len, words)), words) for words in told]
            self.assertEqual(places, sorted(set(places)))

    def test_great_lengths(self):
        self.assertEqual(answers_to(read_system("aX=Xa"), "a", 20), tuple(("a" * many,) for many in range(21)))
        self.assertEqual(len(answers_to(read_system("XY=YX"), "a", 20)), 231)
        self.assertEqual(lengths_to(read_system("abX=Xba"), "ab", 11), ((1,), (3,), (5,), (7,), (9,), (11,)))


class TooMany(unittest.TestCase):
    def test_five_thousand_tuples_and_just_above(self):
        for text, signs, most in (("X=X", "ab", 11), ("XY=YX", "ab", 8), ("XYZ=", "abc", 4), ("X=X", "abcdef", 4),
                                  ("ABCDEF=", "ab", 4), ("X=X", "abcd", 5)):
            system = read_system(text)
            for over in range(3):
                many = tuples_to(len(unknowns_of(system)), len(signs), most + over)
                told = (None,) if many <= 5000 else (TooGreat, many, 5000)
                for asked in ASKED:
                    with self.subTest(text=text, most=most + over, asked=asked):
                        self.assertEqual(refusal_of(asked, system, signs, most + over)[:len(told)], told)

    def test_the_edge(self):
        edges = {}
        for k, s, m in itertools.product(range(1, 7), range(1, 7), range(21)):
            edges[tuples_to(k, s, m)] = (k, s, m)
        below = max(many for many in edges if many <= 5000)
        above = min(many for many in edges if many > 5000)
        for many in (below, above):
            k, s, m = edges[many]
            system = (("KUVXYZ"[:k], ""),)
            for asked in ASKED:
                told = refusal_of(asked, system, SIGNS[:s], m)
                self.assertEqual(told[:1] if many <= 5000 else told, (None,) if many <= 5000 else (TooGreat, many, 5000))

    def test_more_than_five_hundred_rooms(self):
        for asked in ASKED:
            self.assertEqual(refusal_of(asked, OF_501_ROOMS, "ab", 1), (TooGreat, 501, 500))
            self.assertEqual(refusal_of(asked, OF_501_ROOMS, "ab", 0), (TooGreat, 501, 500))

    def test_the_tuples_ahead_of_the_rooms(self):
        many = tuples_to(5, 2, 5)
        self.assertGreater(many, 5000)
        for asked in ASKED:
            self.assertEqual(refusal_of(asked, OF_501_ROOMS, "ab", 5), (TooGreat, many, 5000))

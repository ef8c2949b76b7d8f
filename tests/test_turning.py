"""Systems turned, mirrored and renamed."""

import string
import unittest

from gapwords.errors import NoName, Twice
from gapwords.turning import mirrored, renamed, turned
from helper import (Dealer, answers_by_trying, dealt_system, dealt_with_answer, kinds_within, refusal_of,
                    unknowns_of)

ROW = (("aX", "Xb"), ("YcY", ""), ("", ""), ("ab", "Z"))


def dealt_systems(start, turns):
    dealer = Dealer(start)
    for turn in range(turns):
        yield dealt_system(dealer, 1 + turn % 4, "KXY"[:1 + turn % 3], "ab", 3)
        yield dealt_with_answer(dealer, 1 + turn % 4, "KXY"[:1 + turn % 3], "ab", 2)[0]


def words_by_name(system, words):
    return dict(zip(unknowns_of(system), words))


class TurnedAndMirrored(unittest.TestCase):
    def test_by_hand(self):
        self.assertEqual(turned(ROW), (("Xb", "aX"), ("", "YcY"), ("", ""), ("Z", "ab")))
        self.assertEqual(mirrored(ROW), (("Xa", "bX"), ("YcY", ""), ("", ""), ("ba", "Z")))
        self.assertEqual(turned((("", "abc"),)), (("abc", ""),))
        self.assertEqual(mirrored((("", "abc"),)), (("", "cba"),))
        self.assertEqual(kinds_within((turned(ROW), mirrored(ROW))), {tuple, str})

    def test_twice_it_is_the_system_again(self):
        for system in dealt_systems(10, 200):
            self.assertEqual(turned(turned(system)), system)
            self.assertEqual(mirrored(mirrored(system)), system)
            self.assertEqual(mirrored(turned(system)), turned(mirrored(system)))

    def test_answers_go_along(self):
        many = 0
        for system in dealt_systems(100, 120):
            answers = answers_by_trying(system, "ab", 4)
            many += len(answers)
            self.assertEqual(answers_by_trying(turned(system), "ab", 4), answers)
            from_ends = {tuple(word[::-1] for word in words) for words in answers}
            self.assertEqual(set(answers_by_trying(mirrored(system), "ab", 4)), from_ends)
        self.assertGreater(many, 100)


class Renamed(unittest.TestCase):
    def test_by_hand(self):
        self.assertEqual(renamed(ROW, "X", "A"), (("aA", "Ab"), ("YcY", ""), ("", ""), ("ab", "Z")))
        self.assertEqual(renamed(ROW, "Y", "B"), (("aX", "Xb"), ("BcB", ""), ("", ""), ("ab", "Z")))
        self.assertEqual(renamed(ROW, "Z", "W"), (("aX", "Xb"), ("YcY", ""), ("", ""), ("ab", "W")))
        self.assertEqual(renamed((("ABCDEF", "FEDCBA"),), "C", "Z"), (("ABZDEF", "FEDZBA"),))
        self.assertEqual(kinds_within(renamed(ROW, "X", "A")), {tuple, str})

    def test_every_other_name(self):
        for new in string.ascii_uppercase:
            if new not in "XYZ":
                self.assertEqual(renamed(ROW, "X", new)[0], ("a" + new, new + "b"))

    def test_named_back_it_is_the_system_again(self):
        for system in dealt_systems(11, 200):
            for old in unknowns_of(system):
                for new in "AMZ":
                    self.assertEqual(renamed(renamed(system, old, new), new, old), system)

    def test_the_same_words_for_the_same_places(self):
        many = 0
        for system in dealt_systems(12, 90):
            for old in unknowns_of(system):
                for new in "AZ":
                    other = renamed(system, old, new)
                    there = [words_by_name(other, words) for words in answers_by_trying(other, "ab", 3)]
                    for words in answers_by_trying(system, "ab", 3):
                        here = words_by_name(system, words)
                        here[new] = here.pop(old)
                        self.assertIn(here, there)
                        there.remove(here)
                        many += 1
                    self.assertEqual(there, [])
        self.assertGreater(many, 100)


class NotRenamed(unittest.TestCase):
    def assert_refused(self, kind, *asked):
        for old, new in asked:
            with self.subTest(old=old, new=new):
                self.assertEqual(refusal_of(renamed, ROW, old, new), (kind,))

    def test_old_a_sign_or_no_letter(self):
        self.assert_refused(NoName, *[(old, "A") for old in "abcz1 @[=\n"])

    def test_old_an_unknown_that_does_not_stand_there(self):
        self.assert_refused(NoName, *[(old, "D") for old in string.ascii_uppercase if old not in "XYZ"])
        self.assertEqual(refusal_of(renamed, (("", ""),), "X", "Y"), (NoName,))
        self.assertEqual(refusal_of(renamed, (("ab", "c"),), "X", "Y"), (NoName,))

    def test_new_a_sign_or_no_letter(self):
        self.assert_refused(NoName, *[("X", new) for new in "abcxz1 @[=\n"])

    def test_texts_of_none_or_several_letters(self):
        self.assert_refused(NoName, ("", "A"), ("XY", "A"), ("X", ""), ("X", "AB"), ("X", "XY"), ("", ""))

    def test_new_stands_there(self):
        self.assert_refused(Twice, *[(old, new) for old in "XYZ" for new in "XYZ"])

    def test_no_name_ahead_of_twice(self):
        self.assert_refused(NoName, ("A", "X"), ("A", "A"), ("a", "X"), ("a", "a"), ("A", "a"), ("x", "Y"), ("W", "Z"))

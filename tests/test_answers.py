"""Sides filled, and which fillings are answers."""

import itertools
import unittest

from gapwords.answers import filled, holds
from helper import Dealer, changed_words, dealt_with_answer, filled_by_search, fillings, is_answer, rows, unknowns_of


class SidesFilled(unittest.TestCase):
    def test_by_hand(self):
        for side, names, words, word in (
            ("", "", (), ""),
            ("", "X", ("ab",), ""),
            ("abc", "", (), "abc"),
            ("abc", "XY", ("z", "y"), "abc"),
            ("X", "X", ("ab",), "ab"),
            ("X", "X", ("",), ""),
            ("aXb", "X", ("",), "ab"),
            ("aXbX", "X", ("cd",), "acdbcd"),
            ("XYX", "XY", ("a", "bb"), "abba"),
            ("XYYX", "XY", ("", "c"), "cc"),
            ("AxZ", "AZ", ("z", "a"), "zxa"),
            ("ABCDEF", "ABCDEF", ("a", "b", "", "d", "e", "f"), "abdef"),
        ):
            with self.subTest(side=side, names=names):
                self.assertEqual(filled(side, names, words), word)

    def test_names_in_any_order(self):
        by_name = {"A": "a", "M": "", "X": "mm", "Z": "az"}
        for names in itertools.permutations("AMXZ"):
            words = tuple(by_name[name] for name in names)
            self.assertEqual(filled("ZbAXMMXcZ", "".join(names), words), "azbammmmcaz")

    def test_names_that_do_not_stand_in_the_side(self):
        self.assertEqual(filled("aX", "ZXA", ("zz", "x", "y")), "ax")

    def test_all_small_sides(self):
        for side in rows("aXY", 4):
            for words in fillings("XY", "ab", 2):
                self.assertEqual(filled(side, "XY", words), filled_by_search(side, "XY", words))
                self.assertEqual(filled(side, "YX", words[::-1]), filled_by_search(side, "XY", words))

    def test_long_words(self):
        self.assertEqual(filled("aXXb", "X", ("ab" * 5000,)), "a" + "ab" * 10000 + "b")


class Answers(unittest.TestCase):
    def test_by_hand(self):
        for system, words, told in (
            ((("aX", "Xa"),), ("",), True),
            ((("aX", "Xa"),), ("aaa",), True),
            ((("aX", "Xa"),), ("ab",), False),
            ((("aX", "Xb"),), ("a",), False),
            ((("abX", "Xba"),), ("aba",), True),
            ((("XaY", "YbX"),), ("", ""), False),
            ((("XbaY", "YabX"),), ("a", ""), True),
            ((("XbaY", "YabX"),), ("", "b"), True),
            ((("XbaY", "YabX"),), ("b", ""), False),
            ((("XabY", "YbaX"),), ("", "b"), False),
            ((("XabY", "YbaX"),), ("b", ""), True),
            ((("", ""),), (), True),
            ((("ab", "ab"),), (), True),
            ((("ab", "ba"),), (), False),
            ((("a", ""),), (), False),
            ((("YX", "ab"),), ("b", "a"), True),
            ((("YX", "ab"),), ("a", "b"), False),
            ((("XX", "YY"),), ("ab", "ab"), True),
            ((("XX", "YY"),), ("ab", "ba"), False),
        ):
            with self.subTest(system=system, words=words):
                self.assertIs(holds(system, words), told)

    def test_each_equation_counts(self):
        good, bad = ("aX", "Xa"), ("b", "c")
        for many in range(1, 7):
            self.assertIs(holds((good,) + (("d", "d"),) * (many - 1), ("a",)), True)
            for place in range(many):
                system = (("X", "X"),) + (("d", "d"),) * (many - 1)
                system = system[:place] + (bad,) + system[place + 1:]
                self.assertIs(holds(system, ("a",) if place else ()), False)

    def test_answers_and_the_same_with_one_sign_changed(self):
        dealer = Dealer(8)
        changed = {True: 0, False: 0}
        for turn in range(240):
            system, words = dealt_with_answer(dealer, 1 + turn % 6, "AKXYZ"[:1 + turn % 5], "ab", 4)
            names = unknowns_of(system)
            self.assertIs(holds(system, words), True)
            for others in changed_words(words, "abc"):
                self.assertIs(holds(system, others), is_answer(system, names, others))
                changed[is_answer(system, names, others)] += 1
        self.assertGreater(min(changed.values()), 100)

    def test_all_small_systems(self):
        sides = [side for side in rows("aXY", 3) if side.count("X") < 2 and side.count("Y") < 2]
        for left, right in itertools.product(sides, repeat=2):
            system = ((left, right),)
            names = unknowns_of(system)
            for words in fillings(names, "ab", 2):
                self.assertIs(holds(system, words), is_answer(system, names, words))

"""Equations stripped, first rooms, ended and dead rooms."""

import itertools
import unittest

from gapwords.rooms import first_room, is_dead, is_ended, stripped
from helper import (Dealer, dead_by_search, dealt_system, fillings, is_answer, kinds_within, rows, small_rooms,
                    stripped_by_prefix, unknowns_of)


class Stripped(unittest.TestCase):
    def test_by_hand(self):
        for equations, told in (
            ((), ()),
            ((("", ""),), ()),
            ((("ab", "ab"),), ()),
            ((("aX", "Xb"),), (("aX", "Xb"),)),
            ((("aX", "aX"),), ()),
            ((("aXb", "aXYc"),), (("b", "Yc"),)),
            ((("abcX", "abd"),), (("cX", "d"),)),
            ((("ab", "abX"),), (("", "X"),)),
            ((("XYa", "XY"),), (("a", ""),)),
            ((("aXa", "bXa"),), (("aXa", "bXa"),)),
            ((("XaX", "XaY"),), (("X", "Y"),)),
            ((("", "a"),), (("", "a"),)),
            ((("a", ""),), (("a", ""),)),
            ((("aa", "aaa"), ("", ""), ("X", "X"), ("Xb", "b")), (("", "a"), ("Xb", "b"))),
            ((("ab", "ab"),) * 6, ()),
            ((("b", "c"), ("a", "a"), ("a", "b"), ("", ""), ("c", "d"), ("aY", "ad")),
             (("b", "c"), ("a", "b"), ("c", "d"), ("Y", "d"))),
            ((("a", "b"), ("a", "b")), (("a", "b"), ("a", "b"))),
        ):
            with self.subTest(equations=equations):
                self.assertEqual(stripped(equations), told)
                self.assertLessEqual(kinds_within(stripped(equations)), {tuple, str})

    def test_all_small_equations(self):
        sides = list(rows("aX", 4))
        for left, right in itertools.product(sides, repeat=2):
            self.assertEqual(stripped(((left, right),)), stripped_by_prefix(((left, right),)))

    def test_of_none_to_six_and_told_again(self):
        dealer = Dealer(11)
        for turn in range(420):
            equations = dealt_system(dealer, turn % 7, "XY", "ab", 5)
            told = stripped(equations)
            self.assertEqual(told, stripped_by_prefix(equations))
            self.assertEqual(stripped(told), told)
            self.assertEqual([pair for pair in told if pair[0][:1] == pair[1][:1]], [])


class FirstRooms(unittest.TestCase):
    def test_by_hand(self):
        self.assertEqual(first_room((("aX", "Xb"),)), ("X", (("aX", "Xb"),)))
        self.assertEqual(first_room((("aXb", "aXYc"), ("Z", "Z"))), ("XYZ", (("b", "Yc"),)))
        self.assertEqual(first_room((("ZA", "ZA"),)), ("AZ", ()))
        self.assertEqual(first_room((("", ""),)), ("", ()))
        self.assertEqual(first_room((("ab", "aa"), ("", ""))), ("", (("b", "a"),)))

    def test_all_names_stay_and_equations_are_stripped(self):
        dealer = Dealer(110)
        for turn in range(200):
            system = dealt_system(dealer, 1 + turn % 6, "AXYZ", "ab", 5)
            self.assertEqual(first_room(system), (unknowns_of(system), stripped_by_prefix(system)))
            self.assertLessEqual(kinds_within(first_room(system)), {tuple, str})

    def test_answers_are_those_of_the_system(self):
        dealer = Dealer(111)
        for turn in range(60):
            system = dealt_system(dealer, 1 + turn % 2, "XY", "ab", 4)
            names, equations = first_room(system)
            for words in fillings(names, "ab", 3):
                self.assertEqual(is_answer(equations, names, words), is_answer(system, names, words))


class EndedAndDead(unittest.TestCase):
    def test_by_hand(self):
        for room, ended, dead in (
            (("", ()), True, False),
            (("XY", ()), True, False),
            (("", (("a", "b"),)), False, True),
            (("X", (("aX", "bX"),)), False, True),
            (("X", (("a", ""),)), False, True),
            (("X", (("", "a"),)), False, True),
            (("X", (("Xa", ""),)), False, True),
            (("X", (("", "XXb"),)), False, True),
            (("X", (("X", ""),)), False, False),
            (("X", (("", "XX"),)), False, False),
            (("XY", (("XY", ""),)), False, False),
            (("X", (("aX", "Xb"),)), False, False),
            (("X", (("Xa", "bX"),)), False, False),
            (("XY", (("Xa", "Yb"),)), False, False),
            (("XY", (("X", "a"), ("Y", "a"))), False, False),
            (("XY", (("X", "a"), ("Y", "a"), ("b", "a"))), False, True),
            (("XY", (("X", "Y"), ("", "Xa"))), False, True),
            (("XYZ", (("X", "Y"), ("ZZb", ""), ("X", "Y"))), False, True),
        ):
            with self.subTest(room=room):
                self.assertIs(is_ended(room), ended)
                self.assertIs(is_dead(room), dead)

    def test_each_equation_counts(self):
        for many in range(1, 7):
            alive = ("ABXYZ", (("X", "Y"),) + (("", "X"), ("Y", ""), ("ZZ", ""), ("A", "b"), ("B", "b"))[:many - 1])
            self.assertIs(is_dead(alive), False)
            for place in range(many):
                for bad in (("a", "b"), ("Aa", ""), ("", "a")):
                    equations = alive[1][:place] + (bad,) + alive[1][place + 1:]
                    self.assertIs(is_dead((alive[0], equations)), True)
                    self.assertIs(is_ended((alive[0], equations)), False)

    def test_all_small_rooms(self):
        seen = {True: 0, False: 0}
        for room in small_rooms(3):
            self.assertIs(is_dead(room), dead_by_search(room))
            self.assertIs(is_ended(room), False)
            seen[is_dead(room)] += 1
        self.assertGreater(min(seen.values()), 100)

    def test_no_answer_to_a_dead_room_and_every_filling_to_an_ended_one(self):
        for room in small_rooms(2):
            if is_dead(room):
                self.assertFalse(any(is_answer(room[1], "XY", words) for words in fillings("XY", "ab", 3)))
        self.assertTrue(all(is_answer((), "XY", words) for words in fillings("XY", "ab", 3)))

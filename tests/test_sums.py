"""The sums of a system, and where it lacks."""

import itertools
import unittest

from gapwords.sums import lacking, sums
from helper import Dealer, answers_by_trying, dealt_system, dealt_with_answer, kinds_within, unknowns_of


def sums_letter_by_letter(system):
    """The sums, counted by going through all letters."""
    names = unknowns_of(system)
    signs = sorted({letter for sides in system for side in sides for letter in side if letter.islower()})
    told = []
    for left, right in system:
        coefficients = [0] * len(names)
        amounts = dict.fromkeys(signs, 0)
        for side, by in ((left, 1), (right, -1)):
            for letter in side:
                if letter in names:
                    coefficients[names.index(letter)] += by
                else:
                    amounts[letter] -= by
        told.append(tuple((sign, tuple(coefficients), amounts[sign]) for sign in signs))
    return tuple(told)


def equation_for(coefficients, names, amount):
    """An equation whose sum for `a` has these coefficients and this amount."""
    left = "".join(name * max(number, 0) for name, number in zip(names, coefficients)) + "a" * max(-amount, 0)
    right = "a" * max(amount, 0) + "".join(name * max(-number, 0) for name, number in zip(names, coefficients))
    return (left, right)


def comes_by_trying(coefficients, amount):
    """Whether whole numbers from 0 to the amount and one more come to the amount."""
    return any(sum(number * times for number, times in zip(coefficients, row)) == amount
               for row in itertools.product(range(abs(amount) + 2), repeat=len(coefficients)))


class Sums(unittest.TestCase):
    def test_by_hand(self):
        for system, told in (
            ((("aX", "Xb"),), ((("a", (0,), -1), ("b", (0,), 1)),)),
            ((("XaaX", "bY"),), ((("a", (2, -1), -2), ("b", (2, -1), 1)),)),
            ((("aX", "Xb"), ("YcY", "")),
             ((("a", (0, 0), -1), ("b", (0, 0), 1), ("c", (0, 0), 0)),
              (("a", (0, 2), 0), ("b", (0, 2), 0), ("c", (0, 2), -1)))),
            ((("", "ZZ"), ("A", "z")), ((("z", (0, -2), 0),), (("z", (1, 0), 1),))),
            ((("YX", "XY"),), ((),)),
            ((("X", ""), ("", "X"), ("Y", "Y")), ((), (), ())),
            ((("ab", "ba"),), ((("a", (), 0), ("b", (), 0)),)),
            ((("aab", ""),), ((("a", (), -2), ("b", (), -1)),)),
            ((("", ""),), ((),)),
            ((("", ""), ("", ""), ("", "")), ((), (), ())),
            ((("", ""), ("c", "")), ((("c", (), 0),), (("c", (), -1),))),
        ):
            with self.subTest(system=system):
                self.assertEqual(sums(system), told)
                self.assertLessEqual(kinds_within(sums(system)), {tuple, str, int})

    def test_counted_letter_by_letter(self):
        dealer = Dealer(9)
        for turn in range(400):
            system = dealt_system(dealer, 1 + turn % 6, "BKXYZ"[:turn % 6], "abz"[:turn % 4], 6)
            self.assertEqual(sums(system), sums_letter_by_letter(system))

    def test_every_answer_fulfils_them(self):
        dealer = Dealer(90)
        for turn in range(200):
            system, words = dealt_with_answer(dealer, 1 + turn % 6, "XYZ", "abc", 5)
            for row in sums(system):
                for sign, coefficients, amount in row:
                    reached = sum(number * word.count(sign) for number, word in zip(coefficients, words))
                    self.assertEqual(reached, amount)
            self.assertIsNone(lacking(system))


class Lacking(unittest.TestCase):
    def test_each_ground(self):
        for system, told in (
            ((("aX", "Xb"),), (0, "a")),
            ((("X", "aa"),), None),
            ((("Xa", ""),), (0, "a")),
            ((("", "aX"),), (0, "a")),
            ((("a", "X"),), None),
            ((("XX", "aaa"),), (0, "a")),
            ((("aaa", "XX"),), (0, "a")),
            ((("XX", "aa"),), None),
            ((("XXa", "YY"),), (0, "a")),
            ((("XXaa", "YY"),), None),
            ((("XXa", "YYZ"),), None),
            ((("XXa", "Z"),), None),
            ((("XX", "aZ"),), None),
            ((("X", "aZZ"),), None),
            ((("", "a"),), (0, "a")),
            ((("a", ""),), (0, "a")),
            ((("ab", "ba"),), None),
            ((("", ""),), None),
            ((("XY", "YX"),), None),
        ):
            with self.subTest(system=system):
                self.assertEqual(lacking(system), told)

    def test_the_first_in_order(self):
        self.assertEqual(lacking((("X", "Xa"), ("b", ""))), (0, "a"))
        self.assertEqual(lacking((("X", "Xb"), ("a", ""))), (0, "b"))
        self.assertEqual(lacking((("X", "ab"), ("b", "a"))), (1, "a"))
        self.assertEqual(lacking((("X", "ab"), ("Yb", "aa"), ("c", ""))), (1, "b"))
        self.assertEqual(lacking((("bX", "cX"), ("a", ""))), (0, "b"))
        self.assertEqual(lacking((("X", "cX"), ("a", ""))), (0, "c"))
        for many in range(1, 7):
            for place in range(many):
                rest = (("b", ""),) * (many - place - 1)
                self.assertEqual(lacking((("ab", "ba"),) * place + (("YY", "zzz"),) + rest), (place, "z"))

    def test_by_trying_numbers(self):
        seen = {True: 0, False: 0}
        for many in range(4):
            for coefficients in itertools.product(range(-2, 3), repeat=many):
                for amount in range(-5, 6):
                    system = (equation_for(coefficients, "XYZ"[:many], amount), ("a", "a"))
                    told = sums(system)[0][0]
                    self.assertEqual((told[0], told[2]), ("a", amount))
                    fulfilled = comes_by_trying(coefficients, amount)
                    self.assertEqual(lacking(system), None if fulfilled else (0, "a"))
                    seen[fulfilled] += 1
        self.assertGreater(min(seen.values()), 100)

    def test_dealt_systems(self):
        dealer = Dealer(99)
        for turn in range(300):
            system = dealt_system(dealer, 1 + turn % 3, "XY"[:turn % 3], "ab", 4)
            lacks = [(number, sign) for number, row in enumerate(sums_letter_by_letter(system))
                     for sign, coefficients, amount in row if not comes_by_trying(coefficients, amount)]
            self.assertEqual(lacking(system), lacks[0] if lacks else None)
            if lacks:
                self.assertEqual(answers_by_trying(system, "ab", 4), ())

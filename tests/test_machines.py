"""Machines, and where words lead."""

import itertools
import unittest

from gapwords.errors import NoFit
from gapwords.machines import is_machine, leads
from helper import MACHINES, Dealer, refusal_of, room_by_room, rows, things_of_other_kinds


class WhatIsAMachine(unittest.TestCase):
    def assert_told(self, told, *things):
        for thing in things:
            with self.subTest(thing=repr(thing)):
                self.assertIs(is_machine(thing), told)

    def test_machines(self):
        self.assert_told(True, *MACHINES)

    def test_things_of_other_kinds(self):
        for number, thing in enumerate(things_of_other_kinds()):
            with self.subTest(number=number):
                self.assertIs(is_machine(thing), False)
                self.assertIs(is_machine((thing, ((0,),))), False)
                self.assertIs(is_machine(("a", thing)), False)
                self.assertIs(is_machine(("a", (thing,))), False)
                self.assertIs(is_machine(("ab", ((0, 0), thing))), False)
                if type(thing) is not int or thing not in (0, 1):
                    self.assertIs(is_machine(("ab", ((0, 1), (thing, 0)))), False)
                    self.assertIs(is_machine(("ab", ((0, 1), (0, thing)))), False)
                self.assertIs(is_machine(("a", ((0,),), thing)), False)

    def test_texts_and_other_tuples(self):
        self.assert_told(False, "", "ab", (), ("a",), ("a", ((0,),), ()), ("a", "0"), ("a", ("0",)), ("a", (("0",),)),
                         (("a",), ((0,),)), (("a", "b"), ((0, 0),)), ("a", (0,)), ("a", 0), (((0,),), "a"))
        self.assert_told(False, ["a", ((0,),)], ("a", [(0,)]), ("a", ([0],)), ("ab", ((0, 0), [0, 0])))

    def test_truths_in_the_place_of_numbers(self):
        self.assert_told(False, ("a", ((False,),)), ("ab", ((0, True), (0, 1))), ("ab", ((0, 1), (False, 1))),
                         ("a", ((0,), (True,))))

    def test_signs(self):
        row = {many: ((0,) * many,) for many in range(6)}
        self.assert_told(False, ("", row[0]), ("abcde", row[5]), ("ba", row[2]), ("aa", row[2]), ("aab", row[3]),
                         ("abb", row[3]), ("acb", row[3]), ("A", row[1]), ("aB", row[2]), ("Ab", row[2]), ("a1", row[2]),
                         (" ", row[1]), ("a ", row[2]), ("`", row[1]), ("{", row[1]), ("\u00e9", row[1]), ("", ((),)))
        for text in rows("abcz", 5):
            good = 1 <= len(text) <= 4 and text == "".join(sorted(set(text)))
            self.assert_told(good, (text, ((0,) * len(text),)))

    def test_one_to_three_rooms(self):
        for many in range(6):
            self.assert_told(1 <= many <= 3, ("a", ((0,),) * many), ("ab", ((0, 0),) * many))

    def test_numbers_beyond_the_rooms_or_below_0(self):
        for many in range(1, 4):
            for number in range(-3, 6):
                for place in range(many):
                    rooms = ((0, 0),) * place + ((0, number),) + ((0, 0),) * (many - place - 1)
                    self.assert_told(0 <= number < many, ("ab", rooms))
                    rooms = ((0, 0),) * place + ((number, 0),) + ((0, 0),) * (many - place - 1)
                    self.assert_told(0 <= number < many, ("ab", rooms))
        self.assert_told(False, ("a", ((10 ** 30,),)), ("a", ((-10 ** 30,),)), ("a", ((0.0,),)))

    def test_rooms_of_too_few_or_too_many_numbers(self):
        for signs in ("a", "ab", "abc", "abcd"):
            for many in range(7):
                good = (0,) * len(signs)
                told = many == len(signs)
                self.assert_told(told, (signs, ((0,) * many,)), (signs, (good, (0,) * many)),
                                 (signs, ((0,) * many, good, good)))


class WhereWordsLead(unittest.TestCase):
    def test_by_hand(self):
        for machine, room, word, told in (
            (MACHINES[1], 0, "", 0), (MACHINES[1], 0, "a", 1), (MACHINES[1], 0, "bbab", 1), (MACHINES[1], 0, "aba", 2),
            (MACHINES[1], 1, "", 1), (MACHINES[1], 1, "ba", 2), (MACHINES[1], 2, "bb", 2), (MACHINES[2], 0, "abb", 0),
            (MACHINES[2], 1, "abb", 1), (MACHINES[2], 1, "b", 0), (MACHINES[3], 0, "z", 1), (MACHINES[3], 0, "az", 2),
            (MACHINES[3], 2, "aza", 2), (MACHINES[0], 0, "aaaa", 0), (MACHINES[5], 1, "qqqq", 2),
        ):
            with self.subTest(machine=machine, room=room, word=word):
                self.assertEqual(leads(machine, room, word), told)

    def test_room_by_room(self):
        for machine in MACHINES:
            for room in range(len(machine[1])):
                for word in rows(machine[0], 4):
                    self.assertEqual(leads(machine, room, word), room_by_room(machine, room, word)[-1])
                    self.assertIs(type(leads(machine, room, word)), int)

    def test_one_word_behind_another(self):
        dealer = Dealer(24)
        for machine, room in itertools.product(MACHINES, range(3)):
            if room < len(machine[1]):
                one, other = dealer.word(machine[0], 200), dealer.word(machine[0], 200)
                self.assertEqual(leads(machine, room, one + other), leads(machine, leads(machine, room, one), other))

    def test_words_with_another_sign(self):
        for machine in MACHINES:
            for room in range(len(machine[1])):
                for sign in "abcdeqwxyz":
                    if sign not in machine[0]:
                        good = machine[0][0]
                        for word in (sign, good + sign, sign + good, good * 3 + sign + good, sign * 2):
                            self.assertEqual(refusal_of(leads, machine, room, word), (NoFit,))

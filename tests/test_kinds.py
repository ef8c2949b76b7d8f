"""Kinds of words."""

import itertools
import unittest

from gapwords.errors import NoFit
from gapwords.kinds import kind_of, kinds_of, together
from helper import MACHINES, kind_by_rooms, kinds_by_trying, kinds_within, refusal_of, rows


def machines_of_two_signs():
    """All machines of a and b with one or two rooms, and some with three."""
    for many in (1, 2):
        for row in itertools.product(range(many), repeat=2 * many):
            yield ("ab", tuple(zip(row[::2], row[1::2])))
    for number, row in enumerate(itertools.product(range(3), repeat=6)):
        if number % 11 == 0:
            yield ("ab", tuple(zip(row[::2], row[1::2])))


class KindsOfWords(unittest.TestCase):
    def test_by_hand(self):
        for machine, word, told in (
            (MACHINES[1], "", (0, 1, 2)), (MACHINES[1], "b", (0, 1, 2)), (MACHINES[1], "a", (1, 2, 2)),
            (MACHINES[1], "ba", (1, 2, 2)), (MACHINES[1], "aba", (2, 2, 2)), (MACHINES[2], "b", (1, 0)),
            (MACHINES[2], "bab", (0, 1)), (MACHINES[0], "aaa", (0,)), (MACHINES[5], "qq", (2, 0, 1)),
            (MACHINES[3], "az", (2, 1, 0)),
        ):
            with self.subTest(machine=machine, word=word):
                self.assertEqual(kind_of(machine, word), told)

    def test_room_by_room(self):
        for machine in MACHINES:
            for word in rows(machine[0], 4):
                self.assertEqual(kind_of(machine, word), kind_by_rooms(machine, word))
                self.assertEqual(kinds_within(kind_of(machine, word)), {tuple, int})

    def test_words_with_another_sign(self):
        for machine in MACHINES:
            for sign in "abcdeqwxyz":
                if sign not in machine[0]:
                    for word in (sign, machine[0] + sign, sign + machine[0]):
                        self.assertEqual(refusal_of(kind_of, machine, word), (NoFit,))


class Together(unittest.TestCase):
    def test_by_hand(self):
        self.assertEqual(together((1, 2, 0), (0, 0, 1)), (0, 1, 0))
        self.assertEqual(together((0, 0, 1), (1, 2, 0)), (1, 1, 2))
        self.assertEqual(together((0,), (0,)), (0,))

    def test_the_kind_of_one_word_behind_the_other(self):
        for machine in MACHINES:
            words = list(rows(machine[0], 2))
            for one, other in itertools.product(words, repeat=2):
                told = together(kind_of(machine, one), kind_of(machine, other))
                self.assertEqual(told, kind_by_rooms(machine, one + other))
                self.assertIsInstance(told, tuple)


class KindsOfMachines(unittest.TestCase):
    def test_by_hand(self):
        self.assertEqual(kinds_of(MACHINES[0]), (((0,), ""),))
        self.assertEqual(kinds_of(MACHINES[1]), (((0, 1, 2), ""), ((1, 2, 2), "a"), ((2, 2, 2), "aa")))
        self.assertEqual(kinds_of(MACHINES[2]), (((0, 1), ""), ((1, 0), "b")))
        self.assertEqual(kinds_of(MACHINES[5]), (((0, 1, 2), ""), ((1, 2, 0), "q"), ((2, 0, 1), "qq")))
        self.assertEqual(kinds_of(MACHINES[6]), (((0,), ""),))

    def test_all_with_their_least_words_in_order(self):
        for machine in itertools.chain(MACHINES, machines_of_two_signs()):
            told = kinds_of(machine)
            self.assertEqual(told, kinds_by_trying(machine))
            self.assertLessEqual(kinds_within(told), {tuple, int, str})
            self.assertEqual(told[0], (tuple(range(len(machine[1]))), ""))
            self.assertEqual(len({kind for kind, word in told}), len(told))
            words = [word for kind, word in told]
            self.assertEqual(words, sorted(words, key=lambda word: (len(word), word)))

    def test_twenty_seven(self):
        self.assertEqual({kind for kind, word in kinds_of(MACHINES[7])}, set(itertools.product(range(3), repeat=3)))

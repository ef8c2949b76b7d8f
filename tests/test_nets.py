"""The net of a system, the ranks of its rooms, and one answer."""

import inspect
import itertools
import unittest

from gapwords.errors import TooGreat
from gapwords.nets import net_of, one_answer, ranks
from gapwords.steps import led
from gapwords.texts import read_system
from helper import (OF_500_ROOMS, OF_501_ROOMS, answers_by_trying, dealt_systems, is_answer, kinds_within,
                    net_by_search, refusal_of, systems_by_answer, unknowns_of)


def small_systems():
    """Dealt systems of at most 120 rooms."""
    systems = systems_by_answer(16, 40, 120)
    return systems[True] + systems[False]


def led_by_falling_ranks(net, told, number):
    """All words at a room that come of words without signs, led back along steps to ranks one less each."""
    if told[number] == 0:
        return {("",) * len(net[0][number][0])}
    return {led(net[0][number], step, words)
            for step, other in net[1][number] if told[other] == told[number] - 1
            for words in led_by_falling_ranks(net, told, other)}


class Nets(unittest.TestCase):
    def test_by_hand(self):
        for text, rooms, ways in (
            ("=", (("", ()),), ((),)),
            ("XY=XY", (("XY", ()),), ((),)),
            ("a=b", (("", (("a", "b"),)),), ((),)),
            ("ab=aX", (("X", (("b", "X"),)), ("", (("b", ""),)), ("X", (("", "X"),)), ("", ())),
             (((("none", "X"), 1), (("sign", "X", "b"), 2)), (), ((("none", "X"), 3),), ())),
            ("aX=Xa", (("X", (("aX", "Xa"),)), ("", ())), (((("none", "X"), 1), (("sign", "X", "a"), 0)), ())),
            ("aX=Xb", (("X", (("aX", "Xb"),)), ("", (("a", "b"),))),
             (((("none", "X"), 1), (("sign", "X", "a"), 0)), ())),
            ("XY=YX", (("XY", (("XY", "YX"),)), ("Y", ()), ("X", ())),
             (((("none", "X"), 1), (("none", "Y"), 2), (("over", "X", "Y"), 0), (("over", "Y", "X"), 0)), (), ())),
            ("X=; Y=", (("XY", (("X", ""), ("Y", ""))), ("Y", (("Y", ""),)), ("", ())),
             (((("none", "X"), 1),), ((("none", "Y"), 2),), ())),
        ):
            with self.subTest(text=text):
                self.assertEqual(net_of(read_system(text)), (rooms, ways))

    def test_as_told_by_search(self):
        systems = small_systems()
        self.assertGreater(len(systems), 50)
        for system in systems:
            net = net_of(system)
            self.assertEqual(net, net_by_search(system))
            self.assertLessEqual(kinds_within(net), {tuple, str, int})

    def test_each_room_once_in_the_order_of_the_ways(self):
        for system in dealt_systems(17, 60):
            if refusal_of(net_of, system)[0] is None:
                rooms, ways = net_of(system)
                self.assertEqual(len(set(rooms)), len(rooms))
                self.assertEqual(len(ways), len(rooms))
                coming = [0] + [number for row in ways for step, number in row]
                self.assertEqual(list(dict.fromkeys(coming)), list(range(len(rooms))))
                great = sum(len(left + right) for left, right in system)
                self.assertTrue(all(sum(len(left + right) for left, right in room[1]) <= great for room in rooms))

    def test_just_where_there_are_more_than_most(self):
        for text in ("=", "aX=Xa", "XY=YX", "abX=Xba", "XaY=YbX", "XabY=YbaX", "aABCb=CBAba", "XX=YaY; Zb=bZ"):
            system = read_system(text)
            net = net_by_search(system)
            for most in range(len(net[0]) + 3):
                told = (None, net) if len(net[0]) <= most else (TooGreat, most + 1, most)
                self.assertEqual(refusal_of(net_of, system, most), told)

    def test_five_hundred_where_most_is_left_out(self):
        net = net_of(OF_500_ROOMS)
        self.assertEqual(len(net[0]), 500)
        self.assertEqual(net, net_of(OF_500_ROOMS, 5000))
        self.assertEqual(refusal_of(net_of, OF_500_ROOMS, 499), (TooGreat, 500, 499))
        self.assertEqual(refusal_of(net_of, OF_501_ROOMS), (TooGreat, 501, 500))
        self.assertEqual(len(net_of(OF_501_ROOMS, 501)[0]), 501)
        self.assertEqual([inspect.signature(asked).parameters["most"].default for asked in (net_of, one_answer)],
                         [500, 500])

    def test_the_greatest_most(self):
        self.assertEqual(refusal_of(net_of, read_system("ABCDEF=FaEbDcCdBeAf"), 5000), (TooGreat, 5001, 5000))
        self.assertEqual(refusal_of(net_of, read_system("ABCDEF=FaEbDcCdBeAf")), (TooGreat, 501, 500))
        self.assertEqual(len(net_of(read_system("AaBbCDEF=FEDCBaAb"), 5000)[0]), 2508)


class Ranks(unittest.TestCase):
    def test_by_hand(self):
        for text, told in (
            ("=", (0,)), ("XY=XY", (0,)), ("a=b", (None,)), ("ab=aX", (2, None, 1, 0)), ("aX=Xa", (1, 0)),
            ("aX=Xb", (None, None)), ("XY=YX", (1, 0, 0)), ("X=; Y=", (2, 1, 0)),
        ):
            with self.subTest(text=text):
                self.assertEqual(ranks(net_of(read_system(text))), told)

    def test_of_a_net_made_by_hand(self):
        alive, ended = ("X", (("X", "a"),)), ("", ())
        rooms = (alive, ("X", (("X", "b"),)), ("X", (("X", "c"),)), ended, ("X", (("X", "d"),)), ("X", (("d", "c"),)))
        step = ("none", "X")
        ways = (((step, 1), (step, 4)), ((step, 0), (step, 2)), ((step, 3), (step, 1)), (), ((step, 5), (step, 4)), ())
        self.assertEqual(ranks((rooms, ways)), (3, 2, 1, 0, None, None))

    def test_by_the_neighbours(self):
        for system in small_systems() + [OF_500_ROOMS]:
            rooms, ways = net_of(system)
            told = ranks((rooms, ways))
            self.assertIsInstance(told, tuple)
            self.assertEqual(len(told), len(rooms))
            for room, row, rank in zip(rooms, ways, told):
                behind = [told[number] for step, number in row if told[number] is not None]
                if not room[1]:
                    self.assertEqual(rank, 0)
                else:
                    self.assertEqual(rank, min(behind) + 1 if behind else None)


class OneAnswer(unittest.TestCase):
    def test_by_hand(self):
        for text, told in (
            ("=", ()), ("ab=ab", ()), ("ab=ba", None), ("a=", None), ("XY=XY", ("", "")), ("X=", ("",)),
            ("ab=aX", ("b",)), ("abc=X", ("abc",)), ("aX=Xa", ("",)), ("aX=Xb", None), ("abX=Xba", ("a",)),
            ("XX=abab", ("ab",)), ("XX=aba", None), ("XaX=bab", ("b",)), ("X=Y; Y=ab", ("ab", "ab")),
            ("XaY=YbX", None), ("X=a; X=b", None), ("X=ab; ZZ=X", None), ("X=aa; ZZ=X", ("aa", "a")),
        ):
            with self.subTest(text=text):
                self.assertEqual(one_answer(read_system(text)), told)

    def test_an_answer_just_where_a_room_is_ended(self):
        seen = {True: 0, False: 0}
        for system in small_systems():
            rooms, ways = net_by_search(system)
            told = one_answer(system)
            ended = any(not room[1] for room in rooms)
            self.assertEqual(told is not None, ended)
            if ended:
                self.assertTrue(is_answer(system, unknowns_of(system), told))
                self.assertEqual(len(told), len(unknowns_of(system)))
                self.assertLessEqual(kinds_within(told), {tuple, str})
            seen[ended] += 1
        self.assertGreater(min(seen.values()), 20)

    def test_it_comes_of_empty_words_by_falling_ranks(self):
        several = 0
        for system in small_systems():
            net = net_of(system)
            told = ranks(net)
            if told[0] is not None:
                words = led_by_falling_ranks(net, told, 0)
                self.assertIn(one_answer(system), words)
                several += words != set(answers_by_trying(system, "ab", 3))
        self.assertGreater(several, 20)

    def test_where_trying_finds_one_one_is_told(self):
        sides = ["", "a", "b", "X", "Y", "aX", "Xb", "XY", "YX", "aYX", "XbY", "XaX", "YaY"]
        for left, right in itertools.product(sides, repeat=2):
            system = ((left, right),)
            if max((left + right).count(name) for name in "XY") < 3 and answers_by_trying(system, "ab", 3):
                self.assertIsNotNone(one_answer(system))

    def test_asked_again_it_is_the_same(self):
        for system in small_systems()[:20]:
            self.assertEqual(one_answer(system), one_answer(system))

    def test_refused_as_the_net(self):
        for text in ("=", "aX=Xa", "aX=Xb", "XabY=YbaX", "XaY=YbX"):
            system = read_system(text)
            many = len(net_by_search(system)[0])
            for most in range(1, many + 2):
                told = refusal_of(one_answer, system, most)
                self.assertEqual(told, (None, one_answer(system)) if most >= many else (TooGreat, most + 1, most))
        self.assertTrue(is_answer(OF_500_ROOMS, "ABXYZ", one_answer(OF_500_ROOMS)))
        self.assertEqual(refusal_of(one_answer, OF_501_ROOMS), (TooGreat, 501, 500))
        self.assertTrue(is_answer(OF_501_ROOMS, "ABXYZ", one_answer(OF_501_ROOMS, 501)))

"""Papers that show that a system has no answer."""

import inspect
import unittest

from gapwords.errors import TooGreat
from gapwords.papers import lets_by, paper_of
from gapwords.texts import read_system
from helper import (OF_500_ROOMS, OF_501_ROOMS, Dealer, behind_by_search, kinds_within, net_by_search, refusal_of,
                    steps_by_search, stripped_by_prefix, systems_by_answer, unknowns_of)

NONE = read_system("aX=Xb")
ROOM, DEAD = ("X", (("aX", "Xb"),)), ("", (("a", "b"),))
ENDED = ("X", ())


def let_by_search(system, paper):
    """The check of a paper, told another way."""
    first = (unknowns_of(system), stripped_by_prefix(system))
    behind = [behind_by_search(room, step) for room in paper for step in steps_by_search(room)]
    return first in paper and all(room[1] for room in paper) and all(room in paper for room in behind)


class Checked(unittest.TestCase):
    def assert_let_by(self, system, paper, told):
        self.assertIs(lets_by(system, paper), told)

    def test_by_hand(self):
        for paper, told in (
            ((ROOM, DEAD), True),
            ((DEAD, ROOM), True),
            ((DEAD, ROOM, DEAD, ROOM, ROOM), True),
            ((), False),
            ((ROOM,), False),
            ((DEAD,), False),
            ((ROOM, DEAD, ENDED), False),
            ((ENDED, ROOM, DEAD), False),
            ((ROOM, DEAD, ("", ())), False),
            ((ROOM, DEAD, ("Y", (("Y", "a"),))), False),
            ((ROOM, DEAD, ("", (("b", "a"),))), True),
            ((ROOM, DEAD, ("Y", (("aY", "Yb"),))), True),
            ((ROOM, ("X", (("a", "b"),))), False),
        ):
            with self.subTest(paper=paper):
                self.assert_let_by(NONE, paper, told)

    def test_of_a_system_that_is_ended_or_dead_at_once(self):
        self.assert_let_by((("X", "X"),), (ENDED,), False)
        self.assert_let_by((("X", "X"),), (), False)
        self.assert_let_by((("X", "X"),), (ROOM, DEAD), False)
        self.assert_let_by((("ca", "cb"),), (DEAD,), True)
        self.assert_let_by((("ca", "cb"),), (), False)

    def test_the_first_room_is_stripped(self):
        self.assert_let_by((("caX", "cXb"),), (ROOM, DEAD), True)
        self.assert_let_by((("caX", "cXb"),), (("X", (("caX", "cXb"),)), ROOM, DEAD), True)
        self.assert_let_by((("caX", "cXb"), ("Y", "Y")), (ROOM, DEAD), False)

    def test_nets_without_an_ended_room_in_any_order_and_spoiled(self):
        dealer = Dealer(18)
        systems = systems_by_answer(18, 40, 60)[False]
        self.assertGreater(len(systems), 20)
        for system in systems:
            rooms, ways = net_by_search(system)
            self.assert_let_by(system, rooms, True)
            self.assert_let_by(system, rooms[::-1], True)
            dealt = sorted(rooms, key=lambda room: dealer.below(1000))
            self.assert_let_by(system, tuple(dealt + dealt[:len(dealt) // 2]), True)
            # Every room of the net is the first one or one to which a step leads, so that none can be spared.
            for number in range(len(rooms)):
                self.assert_let_by(system, rooms[:number] + rooms[number + 1:], False)
                self.assert_let_by(system, rooms[:number] + (("AX", ()),) + rooms[number:], False)

    def test_no_paper_of_a_system_with_an_answer(self):
        systems = systems_by_answer(19, 40, 60)[True]
        self.assertGreater(len(systems), 20)
        for system in systems:
            rooms, ways = net_by_search(system)
            unended = tuple(room for room in rooms if room[1])
            for paper in (rooms, unended, unended[:1], unended + (DEAD,), (DEAD,), ()):
                self.assert_let_by(system, paper, False)

    def test_dealt_papers_as_told_by_search(self):
        dealer = Dealer(20)
        seen = {True: 0, False: 0}
        systems = systems_by_answer(21, 30, 12)
        for system in systems[True] + systems[False]:
            rooms = net_by_search(system)[0]
            for turn in range(20):
                paper = tuple(room for room in rooms if dealer.below(12) > 0) + (DEAD,) * dealer.below(2)
                told = let_by_search(system, paper)
                self.assert_let_by(system, paper, told)
                seen[told] += 1
        self.assertGreater(min(seen.values()), 50)


class Papers(unittest.TestCase):
    def test_by_hand(self):
        self.assertEqual(paper_of(NONE), (ROOM, DEAD))
        self.assertEqual(paper_of((("ca", "cb"),)), (DEAD,))
        self.assertIsNone(paper_of((("aX", "Xa"),)))
        self.assertIsNone(paper_of((("", ""),)))
        self.assertIsNone(paper_of((("X", "ab"),)))

    def test_the_rooms_of_the_net_or_none(self):
        for answered, systems in systems_by_answer(22, 40, 120).items():
            self.assertGreater(len(systems), 20)
            for system in systems:
                told = paper_of(system)
                self.assertEqual(told, None if answered else net_by_search(system)[0])
                if told is not None:
                    self.assertIs(lets_by(system, told), True)
                    self.assertLessEqual(kinds_within(told), {tuple, str})

    def test_refused_as_the_net(self):
        for text in ("=", "a=b", "aX=Xa", "aX=Xb", "XabY=YbaX", "XaY=YbX"):
            system = read_system(text)
            many = len(net_by_search(system)[0])
            for most in range(1, many + 2):
                told = refusal_of(paper_of, system, most)
                self.assertEqual(told, (None, paper_of(system)) if most >= many else (TooGreat, most + 1, most))
        self.assertIsNone(paper_of(OF_500_ROOMS))
        self.assertEqual(refusal_of(paper_of, OF_501_ROOMS), (TooGreat, 501, 500))
        self.assertIsNone(paper_of(OF_501_ROOMS, 501))
        self.assertEqual(inspect.signature(paper_of).parameters["most"].default, 500)

"""Fitted nets, answers that fit, and fitted papers."""

import inspect
import unittest

from gapwords.errors import NoFit, TooGreat
from gapwords.fitnets import fitted_answer, fitted_lets_by, fitted_net, fitted_paper
from gapwords.steps import led
from gapwords.texts import read_system
from helper import (MACHINES, Dealer, answers_by_trying, begins_by_product, behind_by_search, fits_by_rooms,
                    fitted_asked, fitted_net_by_search, is_answer, kinds_by_trying, kinds_within, pairs_by_search,
                    refusal_of, unknowns_of)

COUNT, TURN, ALL_KINDS = MACHINES[1], MACHINES[2], MACHINES[7]
NONE, ONE_B = (0, 1), (1, 0)
ASKED = (fitted_net, fitted_answer, fitted_paper)
# The one has 500 begins and no other rooms; the net of the other is one room too great where most is left out.
OF_500 = (read_system("ZYZ=XXb; =bYa"), ("ab", ((2, 1), (0, 0), (0, 1))), ((0, 1, 2), (0, 1, 2), (1, 2)))
OF_501 = (read_system("YZa=aXZ; Ybba=abab"), ("ab", ((2, 1), (1, 0), (2, 1))), ((0, 1, 2), (0, 2), (1, 2)))


def nets_asked(start, turns, most):
    """Dealt triples with their nets, of at most so many rooms."""
    for system, machine, goods in fitted_asked(start, turns):
        net = fitted_net_by_search(system, machine, goods, most)
        if net is not None:
            yield ((system, machine, goods), net)


def ranks_by_rounds(net):
    """The ranks of a net's rooms, told another way: round by round."""
    told = [None if room[1] else 0 for room in net[0]]
    for rank in range(len(told)):
        for number, row in enumerate(net[1]):
            if told[number] is None and any(told[other] == rank for step, other in row):
                told[number] = rank + 1
    return told


def led_by_falling_ranks(net, told, number, least):
    """All words at a room that come of least words, led back along steps to ranks one less each."""
    if told[number] == 0:
        return {tuple(least[kind] for kind in net[0][number][2])}
    return {led(net[0][number][:2], step, words)
            for step, other in net[1][number] if told[other] == told[number] - 1
            for words in led_by_falling_ranks(net, told, other, least)}


def let_by_search(system, machine, goods, paper):
    """The check of a fitted paper, told another way."""
    behind = [behind_by_search(room[:2], step) + (kinds,) for room in paper
              for step, kinds in pairs_by_search(machine, room)]
    needed = list(begins_by_product(system, machine, goods)) + behind
    return all(room in paper for room in needed) and all(room[1] for room in paper)


class FittedNets(unittest.TestCase):
    def test_by_hand(self):
        system = read_system("X=b")
        room, rest = ("X", (("X", "b"),)), ("X", (("X", ""),))
        self.assertEqual(fitted_net(system, TURN, ((1,),)), (
            (room + ((ONE_B,),), rest + ((NONE,),), ("", (), ())),
            (((("sign", "X", "b"), 1),), ((("none", "X"), 2),), ()), 1))
        self.assertEqual(fitted_net(system, TURN, ((0,),)), (
            (room + ((NONE,),), ("", (("", "b"),), ()), rest + ((ONE_B,),)),
            (((("none", "X"), 1), (("sign", "X", "b"), 2)), (), ()), 1))
        self.assertEqual(fitted_net(system, TURN, ((0, 1),)), (
            (room + ((NONE,),), room + ((ONE_B,),), ("", (("", "b"),), ()), rest + ((ONE_B,),), rest + ((NONE,),),
             ("", (), ())),
            (((("none", "X"), 2), (("sign", "X", "b"), 3)), ((("sign", "X", "b"), 4),), (), (), ((("none", "X"), 5),),
             ()), 2))
        self.assertEqual(fitted_net(system, TURN, ((),)), ((), (), 0))
        self.assertEqual(fitted_net(read_system("a=a"), TURN, ()), ((("", (), ()),), ((),), 1))
        self.assertEqual(fitted_net(read_system("a=b"), TURN, ()), ((("", (("a", "b"),), ()),), ((),), 1))

    def test_as_told_by_search(self):
        many = 0
        for asked, net in nets_asked(30, 60, 300):
            told = fitted_net(*asked)
            self.assertEqual(told, net)
            self.assertLessEqual(kinds_within(told), {tuple, str, int})
            many += net[2] > 1 and len(net[0]) > net[2]
        self.assertGreater(many, 20)

    def test_just_where_there_are_more_than_most(self):
        for asked, net in nets_asked(31, 20, 40):
            for most in range(1, len(net[0]) + 2):
                told = (None, net) if len(net[0]) <= most else (TooGreat, most + 1, most)
                self.assertEqual(refusal_of(fitted_net, *asked, most), told)
                for other in (fitted_answer, fitted_paper):
                    refused = (None,) if len(net[0]) <= most else told
                    self.assertEqual(refusal_of(other, *asked, most)[:len(refused)], refused)

    def test_five_hundred_where_most_is_left_out(self):
        self.assertEqual(fitted_net(*OF_500), fitted_net_by_search(*OF_500, 500))
        self.assertEqual((len(fitted_net(*OF_500)[0]), fitted_net(*OF_500)[2]), (500, 500))
        self.assertEqual(fitted_paper(*OF_500), fitted_net(*OF_500)[0])
        self.assertIsNone(fitted_answer(*OF_500))
        self.assertEqual(len(fitted_net(*OF_501, 501)[0]), 501)
        for asked in ASKED:
            self.assertEqual(refusal_of(asked, *OF_501), (TooGreat, 501, 500))
            self.assertEqual(refusal_of(asked, *OF_500, 499), (TooGreat, 500, 499))
            self.assertEqual(inspect.signature(asked).parameters["most"].default, 500)

    def test_ahead_of_the_making_of_more_than_most_begins(self):
        system = read_system("ABCDEF=FEDCBA")
        for asked in ASKED:
            self.assertEqual(refusal_of(asked, system, ALL_KINDS, ((0, 1, 2),) * 6), (TooGreat, 501, 500))
            self.assertEqual(refusal_of(asked, system, ALL_KINDS, ((0, 1, 2),) * 6, 5000), (TooGreat, 5001, 5000))

    def test_no_begins_at_once_where_goods_are_none(self):
        system = read_system("ABCDEF=FEDCBA")
        goods = ((0, 1, 2),) * 5 + ((),)
        self.assertEqual(fitted_net(system, ALL_KINDS, goods), ((), (), 0))
        self.assertIsNone(fitted_answer(system, ALL_KINDS, goods))
        self.assertEqual(fitted_paper(system, ALL_KINDS, goods), ())
        self.assertIs(fitted_lets_by(system, ALL_KINDS, goods, ()), True)


class OtherSigns(unittest.TestCase):
    def test_no_fit_ahead_of_too_great(self):
        for text in ("cX=Xc", "X=X; c=c", "c=", "XabY=YbaX; =c"):
            system = read_system(text)
            many = len(unknowns_of(system))
            for goods in (((0, 1),) * many, ((),) * many):
                for asked in ASKED:
                    self.assertEqual(refusal_of(asked, system, TURN, goods), (NoFit,))
                    self.assertEqual(refusal_of(asked, system, TURN, goods, 1), (NoFit,))
                self.assertEqual(refusal_of(fitted_lets_by, system, TURN, goods, ()), (NoFit,))
                self.assertEqual(refusal_of(fitted_lets_by, system, TURN, goods, (("", (), ()),)), (NoFit,))
        great = read_system("ABCDEF=FEDzCBA")
        for asked in ASKED:
            self.assertEqual(refusal_of(asked, great, ALL_KINDS, ((0, 1, 2),) * 6), (NoFit,))
        self.assertEqual(refusal_of(fitted_lets_by, great, ALL_KINDS, ((0, 1, 2),) * 6, ()), (NoFit,))


class AnswersThatFit(unittest.TestCase):
    def test_by_hand(self):
        for text, machine, goods, told in (
            ("=", TURN, (), ()),
            ("a=b", TURN, (), None),
            ("X=X", TURN, ((1,),), ("b",)),
            ("X=X", TURN, ((0,),), ("",)),
            ("X=X", TURN, ((0, 1),), ("",)),
            ("X=X", TURN, ((),), None),
            ("X=ab", TURN, ((1,),), ("ab",)),
            ("X=ab", TURN, ((0,),), None),
            ("aX=Xa", TURN, ((1,),), None),
            ("aX=Xa", COUNT, ((2,),), ("aa",)),
            ("aX=Xa", COUNT, ((1,),), ("a",)),
            ("abX=Xba", COUNT, ((2,),), ("aba",)),
            ("abX=Xba", COUNT, ((0,),), None),
            ("XX=YY", TURN, ((1,), (0,)), None),
            ("X=X; Y=Y", COUNT, ((2,), (1,)), ("aa", "a")),
        ):
            with self.subTest(text=text, goods=goods):
                self.assertEqual(fitted_answer(read_system(text), machine, goods), told)

    def test_of_several_one_that_fits(self):
        for goods in (((1,), (0,)), ((0,), (1,)), ((1,), (1,)), ((0, 1), (1,))):
            found = fitted_answer(read_system("XY=YX"), TURN, goods)
            self.assertTrue(is_answer((("XY", "YX"),), "XY", found))
            self.assertTrue(fits_by_rooms(TURN, goods, found))
            self.assertEqual(fitted_answer(read_system("XY=YX"), TURN, goods), found)

    def test_one_that_fits_just_where_a_room_is_ended(self):
        seen = {True: 0, False: 0}
        for (system, machine, goods), net in nets_asked(32, 80, 300):
            told = fitted_answer(system, machine, goods)
            ended = any(not room[1] for room in net[0])
            self.assertEqual(told is not None, ended)
            seen[ended] += 1
            if ended:
                self.assertTrue(is_answer(system, unknowns_of(system), told))
                self.assertTrue(fits_by_rooms(machine, goods, told))
                self.assertLessEqual(kinds_within(told), {tuple, str})
            else:
                tried = answers_by_trying(system, "ab", 4)
                self.assertFalse(any(fits_by_rooms(machine, goods, words) for words in tried))
        self.assertGreater(min(seen.values()), 20)

    def test_it_comes_of_least_words_by_falling_ranks(self):
        several = 0
        for (system, machine, goods), net in nets_asked(33, 60, 200):
            told = ranks_by_rounds(net)
            least = dict(kinds_by_trying(machine))
            words = set()
            for begin in range(net[2]):
                if told[begin] is not None:
                    words |= led_by_falling_ranks(net, told, begin, least)
            found = fitted_answer(system, machine, goods)
            self.assertEqual(found in words, words != set())
            several += any(told[begin] not in (None, 0) for begin in range(net[2]))
        self.assertGreater(several, 10)

    def test_where_trying_finds_one_one_is_told(self):
        for system, machine, goods in fitted_asked(34, 60):
            tried = answers_by_trying(system, "ab", 3)
            if any(fits_by_rooms(machine, goods, words) for words in tried):
                self.assertIsNotNone(fitted_answer(system, machine, goods, 5000))


class FittedPapers(unittest.TestCase):
    def test_by_hand(self):
        system = read_system("X=b")
        room, dead, rest = ("X", (("X", "b"),), (NONE,)), ("", (("", "b"),), ()), ("X", (("X", ""),), (ONE_B,))
        for paper, told in (
            ((room, dead, rest), True),
            ((rest, room, dead, room, rest), True),
            ((dead, rest), False),
            ((room, rest), False),
            ((room, dead), False),
            ((room,), False),
            ((), False),
            ((room, dead, rest, ("", (), ())), False),
            ((room, dead, rest, ("X", (), (NONE,))), False),
            ((room, dead, rest, ("X", (("X", ""),), (NONE,))), False),
            ((room, dead, rest, ("Y", (("Y", ""),), (ONE_B,))), True),
            ((("X", (("X", "b"),), (ONE_B,)), dead, rest), False),
        ):
            with self.subTest(paper=paper):
                self.assertIs(fitted_lets_by(system, TURN, ((0,),), paper), told)
        self.assertEqual(fitted_paper(system, TURN, ((0,),)), (room, dead, rest))
        self.assertIsNone(fitted_paper(system, TURN, ((1,),)))
        self.assertIsNone(fitted_paper(system, TURN, ((0, 1),)))
        self.assertIs(fitted_lets_by(system, TURN, ((0, 1),), (room, dead, rest)), False)
        self.assertEqual(fitted_paper(read_system("a=b"), TURN, ()), (("", (("a", "b"),), ()),))
        self.assertIsNone(fitted_paper(read_system("a=a"), TURN, ()))

    def test_without_begins_the_paper_of_no_rooms_is_let_by(self):
        system = read_system("XY=YX")
        self.assertEqual(fitted_paper(system, TURN, ((), (0,))), ())
        self.assertIs(fitted_lets_by(system, TURN, ((), (0,)), ()), True)
        self.assertIs(fitted_lets_by(system, TURN, ((), (0,)), (("X", (), (NONE,)),)), False)

    def test_nets_without_an_ended_room_in_any_order_and_spoiled(self):
        dealer, many = Dealer(35), 0
        for asked, net in nets_asked(35, 80, 60):
            rooms = net[0]
            unended = tuple(room for room in rooms if room[1])
            if unended != rooms:
                self.assertIsNone(fitted_paper(*asked))
                for paper in (rooms, unended, unended[:1], ()):
                    self.assertIs(fitted_lets_by(*asked, paper), False)
                continue
            self.assertEqual(fitted_paper(*asked), rooms)
            dealt = sorted(rooms, key=lambda room: dealer.below(1000))
            for paper in (rooms, rooms[::-1], tuple(dealt + dealt[:len(dealt) // 2])):
                self.assertIs(fitted_lets_by(*asked, paper), True)
            # Every room of the net is a begin or one to which a step leads, so that none can be spared.
            for number in range(len(rooms)):
                self.assertIs(fitted_lets_by(*asked, rooms[:number] + rooms[number + 1:]), False)
            self.assertIs(fitted_lets_by(*asked, rooms + (("", (), ()),)), False)
            many += len(rooms) > 2
        self.assertGreater(many, 10)

    def test_dealt_papers_as_told_by_search(self):
        dealer, seen = Dealer(36), {True: 0, False: 0}
        for asked, net in nets_asked(36, 60, 12):
            for _ in range(10):
                paper = tuple(room for room in net[0] if dealer.below(12) > 0)
                told = let_by_search(*asked, paper)
                self.assertIs(fitted_lets_by(*asked, paper), told)
                seen[told] += 1
        self.assertGreater(min(seen.values()), 30)

    def test_a_paper_of_fewer_rooms_than_begins_is_not_let_by(self):
        system = read_system("ABCDEF=FEDCBA")
        self.assertIs(fitted_lets_by(system, ALL_KINDS, ((0,), (0,), (0,), (), (0,), (0,)), ()), True)
        self.assertIs(fitted_lets_by(read_system("XYa="), ALL_KINDS, ((0,), (0,)), ()), False)
        paper = fitted_paper(read_system("XYa="), ALL_KINDS, ((0, 1), (0,)))
        self.assertEqual(len(paper), 162)
        self.assertIs(fitted_lets_by(read_system("XYa="), ALL_KINDS, ((0, 1), (0,)), paper), True)
        self.assertIs(fitted_lets_by(read_system("XYa="), ALL_KINDS, ((0, 1), (0,)), paper[:1] * 200), False)

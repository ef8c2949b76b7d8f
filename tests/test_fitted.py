"""Fillings that fit, begins, and fitted steps."""

import collections
import itertools
import unittest

from gapwords.errors import NoFit
from gapwords.fitted import begins, fits, fitted_steps
from gapwords.steps import led, onward
from gapwords.texts import read_system
from helper import (MACHINES, begins_by_product, fillings, fits_by_rooms, fitted_asked, fitted_net_by_search,
                    kind_by_rooms, kinds_by_trying, kinds_within, pairs_by_search, refusal_of, unknowns_of)

COUNT, TURN = MACHINES[1], MACHINES[2]
ALL = (0, 1, 2)


class Fits(unittest.TestCase):
    def test_by_hand(self):
        for text, machine, goods, words, told in (
            ("X=X", TURN, ((0,),), ("",), True),
            ("X=X", TURN, ((1,),), ("",), False),
            ("X=X", TURN, ((1,),), ("ab",), True),
            ("X=X", TURN, ((0, 1),), ("ab",), True),
            ("X=X", TURN, ((),), ("",), False),
            ("X=X", TURN, ((0, 1),), ("abc",), False),
            ("X=X", TURN, ((0, 1),), ("z",), False),
            ("XY=YX", TURN, ((0,), (1,)), ("a", "b"), True),
            ("XY=YX", TURN, ((1,), (0,)), ("a", "b"), False),
            ("XY=YX", TURN, ((0,), (1,)), ("b", "b"), False),
            ("XY=YX", TURN, ((0,), (1,)), ("a", "a"), False),
            ("XY=YX", TURN, ((0, 1), ()), ("a", "a"), False),
            ("aX=bY", COUNT, ((2,), (1,)), ("aa", "ba"), True),
            ("ab=b", COUNT, (), (), True),
            ("=", COUNT, (), (), True),
        ):
            with self.subTest(text=text, goods=goods, words=words):
                self.assertIs(fits(read_system(text), machine, goods, words), told)

    def test_room_by_room(self):
        seen = {True: 0, False: 0}
        for system, machine, goods in fitted_asked(26, 60):
            for words in fillings(unknowns_of(system), "abx", 2):
                told = fits_by_rooms(machine, goods, words)
                self.assertIs(fits(system, machine, goods, words), told)
                seen[told] += 1
        self.assertGreater(min(seen.values()), 500)

    def test_a_sign_that_the_machine_has_not(self):
        for text in ("cX=Xc", "X=X; c=c", "X=; =c", "c=", "Xz=Xz"):
            system = read_system(text)
            many = len(unknowns_of(system))
            for words in (("",) * many, ("a",) * many, ("c",) * many):
                for good in ((0, 1), ()):
                    self.assertEqual(refusal_of(fits, system, TURN, (good,) * many, words), (NoFit,))
            self.assertEqual(refusal_of(begins, system, TURN, ((0, 1),) * many), (NoFit,))
            self.assertEqual(refusal_of(begins, system, TURN, ((),) * many), (NoFit,))
        self.assertEqual(refusal_of(begins, read_system("zX=b"), MACHINES[3], (ALL,)), (NoFit,))


class Begins(unittest.TestCase):
    def test_by_hand(self):
        none, turn = (0, 1), (1, 0)
        room = ("XY", (("XY", "YX"),))
        system = read_system("XY=YX")
        self.assertEqual(begins(system, TURN, ((0, 1), (0, 1))), tuple(
            room + (kinds,) for kinds in ((none, none), (none, turn), (turn, none), (turn, turn))))
        self.assertEqual(begins(system, TURN, ((1,), (0, 1))), (room + ((turn, none),), room + ((turn, turn),)))
        self.assertEqual(begins(system, TURN, ((0,), (1,))), (room + ((none, turn),),))
        self.assertEqual(begins(read_system("aaX=abY"), TURN, ((0,), (1,))), (("XY", (("aX", "bY"),), (none, turn)),))

    def test_where_goods_are_none_there_are_none(self):
        system = read_system("XY=YX")
        for goods in (((), ()), ((0, 1), ()), ((), (0, 1))):
            self.assertEqual(begins(system, TURN, goods), ())
        for place in range(6):
            goods = (ALL,) * place + ((),) + (ALL,) * (5 - place)
            self.assertEqual(begins(read_system("ABCDEF="), MACHINES[7], goods), ())

    def test_where_no_kind_leads_to_the_goods_there_are_none(self):
        self.assertEqual(begins(read_system("X=X"), ("a", ((0,), (1,))), ((1,),)), ())

    def test_one_of_a_system_without_names(self):
        self.assertEqual(begins(read_system("ab=aa"), TURN, ()), (("", (("b", "a"),), ()),))
        self.assertEqual(begins(read_system("="), MACHINES[7], ()), (("", (), ()),))

    def test_in_the_order_of_the_kinds_the_first_name_s_changing_last(self):
        many = 0
        for system, machine, goods in fitted_asked(27, 100):
            told = begins(system, machine, goods)
            self.assertEqual(told, begins_by_product(system, machine, goods))
            self.assertLessEqual(kinds_within(told), {tuple, str, int})
            many += len(told)
        self.assertGreater(many, 1000)

    def test_some_thousands(self):
        told = begins(read_system("XYZ="), MACHINES[7], (ALL, (0, 1), (2,)))
        self.assertEqual(len(told), 27 * 18 * 9)
        self.assertEqual(told, begins_by_product(read_system("XYZ="), MACHINES[7], (ALL, (0, 1), (2,))))

    def test_the_kinds_of_fillings_that_fit(self):
        for system, machine, goods in fitted_asked(28, 30):
            kinds = {room[2] for room in begins(system, machine, goods)}
            for words in fillings(unknowns_of(system), "ab", 3):
                row = tuple(kind_by_rooms(machine, word) for word in words)
                self.assertEqual(row in kinds, fits_by_rooms(machine, goods, words))


class FittedSteps(unittest.TestCase):
    def test_by_hand(self):
        none, one, two = (0, 1, 2), (1, 2, 2), (2, 2, 2)
        for room, told in (
            (("X", (("X", ""),), (none,)), ((("none", "X"), ()),)),
            (("X", (("X", ""),), (one,)), ()),
            (("X", (("X", "a"),), (none,)), ((("none", "X"), ()),)),
            (("X", (("X", "a"),), (one,)), ((("sign", "X", "a"), (none,)),)),
            (("X", (("X", "a"),), (two,)), ((("sign", "X", "a"), (one,)), (("sign", "X", "a"), (two,)))),
            (("X", (("b", "X"),), (none,)), ((("none", "X"), ()), (("sign", "X", "b"), (none,)))),
            (("X", (("b", "X"),), (two,)), ((("sign", "X", "b"), (two,)),)),
            (("XY", (("X", "Y"),), (none, one)), ((("none", "X"), (one,)), (("over", "Y", "X"), (none, one)))),
            (("XY", (("X", "Y"),), (two, one)), ((("over", "X", "Y"), (one, one)), (("over", "X", "Y"), (two, one)))),
            (("XY", (("X", "Y"),), (two, two)), tuple(
                (("over", "X", "Y"), (kind, two)) for kind in (none, one, two)) + tuple(
                (("over", "Y", "X"), (two, kind)) for kind in (none, one, two))),
            (("XY", (("X", "Y"),), (none, none)), (
                (("none", "X"), (none,)), (("none", "Y"), (none,)),
                (("over", "X", "Y"), (none, none)), (("over", "Y", "X"), (none, none)))),
            (("AXZ", (("X", "a"),), (two, one, none)), ((("sign", "X", "a"), (two, none, none)),)),
            (("AXZ", (("X", "a"),), (two, none, one)), ((("none", "X"), (two, one)),)),
        ):
            with self.subTest(room=room):
                self.assertEqual(fitted_steps(COUNT, room), told)

    def test_none_of_ended_and_dead_rooms(self):
        for room in (("", (), ()), ("X", (), ((0, 1, 2),)), ("X", (("a", "b"),), ((0, 1, 2),)),
                     ("X", (("X", ""), ("", "Xa")), ((0, 1, 2),))):
            self.assertEqual(fitted_steps(COUNT, room), ())

    def rooms_asked(self):
        texts = ("XaY=YbX", "XX=YaY", "XabY=YbaX")
        of_two = [(read_system(text), machine, ((0,), (0, 1))) for text in texts for machine in (COUNT, TURN)]
        for system, machine, goods in of_two + list(fitted_asked(29, 80)):
            net = fitted_net_by_search(system, machine, goods, 150)
            if net is not None:
                for room in net[0]:
                    yield (machine, room)

    def test_by_trying_each_kind(self):
        sorts, several = collections.Counter(), 0
        for machine, room in self.rooms_asked():
            told = fitted_steps(machine, room)
            self.assertEqual(told, pairs_by_search(machine, room))
            self.assertLessEqual(kinds_within(told), {tuple, str, int})
            sorts.update(step[0] for step, kinds in told)
            several += len(told) > len({step for step, kinds in told})
        self.assertGreater(min(sorts["none"], sorts["sign"], sorts["over"], several), 20)

    def test_words_of_these_kinds_go_along(self):
        for machine, room in itertools.islice(self.rooms_asked(), 300):
            least = dict(kinds_by_trying(machine))
            told = fitted_steps(machine, room)
            for step, kinds in told:
                words = led(room[:2], step, tuple(least[kind] for kind in kinds))
                self.assertEqual(tuple(kind_by_rooms(machine, word) for word in words), room[2])
            for words in fillings(room[0], "ab", 2):
                if tuple(kind_by_rooms(machine, word) for word in words) == room[2]:
                    for step in {step for step, kinds in pairs_by_search(machine, room)}:
                        behind = onward(room[:2], step, words)
                        if behind is not None:
                            kinds = tuple(kind_by_rooms(machine, word) for word in behind)
                            self.assertIn((step, kinds), told)

"""The promise over the whole program: systems of many kinds, through all of its parts."""

import unittest

from gapwords.answers import holds
from gapwords.errors import NoSystem, NoText, Thrice, TooGreat
from gapwords.fitnets import fitted_answer, fitted_lets_by, fitted_paper
from gapwords.fitted import fits
from gapwords.nets import net_of, one_answer, ranks
from gapwords.papers import lets_by, paper_of
from gapwords.rooms import first_room, is_ended
from gapwords.steps import stepped, steps_of
from gapwords.systems import check, names_of
from gapwords.tables import answers_to, least_to, lengths_to
from gapwords.texts import read_system, show_system
from gapwords.ties import tied
from gapwords.turning import mirrored, renamed, turned
from gapwords.ways import led_back, way_of
from helper import (Dealer, answers_by_trying, dealt_system, dealt_systems, dealt_with_answer, few_rooms,
                    fitted_asked, refusal_of, rows)

WRITTEN = (
    "=", "a=b", "ab=ab", "X=", "X=X", "aX=Xa", "aX=Xb", "abX=Xba", "aabbX=Xabab", "XY=YX", "XaY=YaX", "XaY=YbX",
    "XabY=YbaX", "XX=YY", "XX=YaY", "XaX=YbY", "XYX=Yab", "aXbY=YaXb", "X=aY; Y=bX", "X=aY; Yb=X", "XY=ab; YX=ba",
    "XY=ab; YX=ab", "X=ab; ZZ=X", "XYZ=ZYX", "aXYZ=ZYXb", "XY=Z; Z=abab", "X=Y; Y=Z; Z=X", "XaYbZ=ZbYaX", "A=; B=; C=a",
    "aXX=YYa", "XbX=aYa; Y=b", "XbX=abYba; Y=", "=XX; aY=Ya; Z=bbb", "a=a; b=b; X=a; X=b",
)


def systems():
    """Systems of many kinds, of at most 200 rooms."""
    dealer = Dealer(4)
    every = [read_system(text) for text in WRITTEN] + list(dealt_systems(4, 40))
    every += [dealt_system(dealer, 1 + turn % 6, "BKXYZ", "abc", 5) for turn in range(40)]
    every += [dealt_with_answer(dealer, 1 + turn % 6, "ABKXYZ", "abc", 3)[0] for turn in range(60)]
    return [system for system in every if letters(system) <= 40 and len(few_rooms(system, 200)) <= 200]


def letters(equations):
    return sum(len(left + right) for left, right in equations)


def by_name(names, answers):
    """Answers as sets of pairs of a name and its word, so that the order of the names does not count."""
    return {frozenset(zip(names, words)) for words in answers}


def asked_to(system):
    """A number of signs together for which the tuples of words are few."""
    return {0: 4, 1: 5, 2: 4, 3: 3, 4: 2}.get(len(names_of(system)), 2)


class ThePromise(unittest.TestCase):
    @classmethod
    def setUpClass(cls):
        cls.systems = systems()

    def test_there_are_systems_of_each_kind(self):
        self.assertGreater(len(self.systems), 120)
        self.assertGreater(sum(one_answer(system) is None for system in self.systems), 30)
        self.assertGreater(sum(one_answer(system) is not None for system in self.systems), 30)
        for system in self.systems:
            self.assertIsNone(check(system))
            self.assertEqual(read_system(show_system(system)), system)

    def test_the_net_is_closed_and_no_room_is_greater(self):
        for system in self.systems:
            rooms = net_of(system)[0]
            self.assertEqual(rooms[0], first_room(system))
            for room in rooms:
                self.assertLessEqual(letters(room[1]), letters(system))
                for step in steps_of(room):
                    self.assertIn(stepped(room, step), rooms)

    def test_an_answer_or_a_paper_and_never_both(self):
        for system in self.systems:
            words, paper = one_answer(system), paper_of(system)
            rooms = net_of(system)[0]
            self.assertEqual(any(is_ended(room) for room in rooms), words is not None)
            self.assertEqual(words is None, paper is not None)
            self.assertEqual(ranks(net_of(system))[0] is None, words is None)
            if paper is not None:
                self.assertIs(lets_by(system, paper), True)
                self.assertEqual(answers_by_trying(system, "ab", 3), ())
            else:
                self.assertIs(holds(system, words), True)
                self.assertIs(lets_by(system, rooms), False)
                self.assertIs(lets_by(system, tuple(room for room in rooms if not is_ended(room))), False)

    def test_each_answer_has_a_way_that_leads_back_to_it(self):
        many = 0
        for system in self.systems:
            told = answers_to(system, "abc", asked_to(system))
            for words in told + ((one_answer(system),) if one_answer(system) is not None else ()):
                steps, rest = way_of(system, words)
                self.assertEqual(led_back(system, steps, rest), words)
                many += 1
        self.assertGreater(many, 500)

    def test_the_answers_to_a_length_and_no_other_words(self):
        for system in self.systems:
            told = answers_to(system, "abc", asked_to(system))
            self.assertEqual(told, answers_by_trying(system, "abc", asked_to(system)))
            self.assertEqual(least_to(system, "abc", asked_to(system)), told[0] if told else None)
            if told:
                self.assertIsNotNone(one_answer(system))

    def test_they_come_of_their_lengths_alone(self):
        for system in self.systems:
            told = answers_to(system, "abc", asked_to(system))
            for lengths in lengths_to(system, "abc", asked_to(system)):
                pattern = tied(system, lengths)
                spots = [spot for row in pattern for spot in row if isinstance(spot, int)]
                of_these = [words for words in told if tuple(map(len, words)) == lengths]
                self.assertEqual(len(of_these), 3 ** len(set(spots)))

    def test_turned_mirrored_and_renamed(self):
        for system in self.systems:
            told = answers_to(system, "ab", 2)
            self.assertEqual(answers_to(turned(system), "ab", 2), told)
            self.assertEqual(one_answer(turned(system)) is None, one_answer(system) is None)
            if refusal_of(net_of, mirrored(system))[0] is None:
                from_ends = {tuple(word[::-1] for word in words) for words in told}
                self.assertEqual(set(answers_to(mirrored(system), "ab", 2)), from_ends)
                self.assertEqual(one_answer(mirrored(system)) is None, one_answer(system) is None)
            for old in names_of(system)[-1:]:
                for new in sorted(set("AMZ") - set(names_of(system))):
                    other = renamed(system, old, new)
                    if refusal_of(net_of, other)[0] is None:
                        there = by_name(names_of(other), answers_to(other, "ab", 2))
                        self.assertEqual(there, by_name(names_of(system).replace(old, new), told))

    def test_answers_that_fit(self):
        seen = {True: 0, False: 0}
        for system, machine, goods in fitted_asked(44, 60):
            if refusal_of(fitted_paper, system, machine, goods)[0] is None:
                words, paper = fitted_answer(system, machine, goods), fitted_paper(system, machine, goods)
                self.assertEqual(words is None, paper is not None)
                seen[words is None] += 1
                if words is not None:
                    self.assertIs(holds(system, words) and fits(system, machine, goods, words), True)
                else:
                    self.assertIs(fitted_lets_by(system, machine, goods, paper), True)
                    for other in answers_by_trying(system, "ab", 3):
                        self.assertIs(fits(system, machine, goods, other), False)
        self.assertGreater(min(seen.values()), 20)

    def test_every_word_fits_a_machine_of_one_room(self):
        for system in self.systems:
            if len(names_of(system)) > 0:
                goods = ((0,),) * len(names_of(system))
                told = refusal_of(fitted_answer, system, ("abc", ((0, 0, 0),)), goods)
                if told[0] is None:
                    self.assertEqual(told[1] is None, one_answer(system) is None)

    def test_what_is_no_such_system_is_refused_with_the_place(self):
        for left in rows("aXY", 4):
            for right in ("", "X", "YX", "aXX"):
                times = {name: (left + right).count(name) for name in "XY"}
                kind = Thrice if max(times.values()) > 2 else None
                self.assertEqual(refusal_of(check, ((left, right),))[0], kind)
                self.assertEqual(refusal_of(read_system, left + "=" + right)[0], kind)
        self.assertEqual(refusal_of(check, (("aXb", "XcX"),)), (Thrice, "X", 0, 1, 2))
        self.assertEqual(refusal_of(read_system, "aX=Xb; =abX"), (Thrice, "X", 1, 1, 2))
        self.assertEqual(refusal_of(check, (("a" * 41, ""),)), (TooGreat, 41, 40))
        self.assertEqual(refusal_of(check, "aX=Xb"), (NoSystem,))
        self.assertEqual(refusal_of(read_system, (("aX", "Xb"),)), (NoText,))

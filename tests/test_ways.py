"""The way of an answer, and steps and a rest led back."""

import unittest

from gapwords.errors import NoAnswer, NoWay
from gapwords.nets import one_answer
from gapwords.steps import led, onward
from gapwords.texts import read_system
from gapwords.ways import led_back, way_of
from helper import (OF_500_ROOMS, Dealer, answers_by_trying, behind_by_search, changed_words, dealt_with_answer,
                    fillings, is_answer, kinds_within, net_by_search, refusal_of, steps_by_search, stripped_by_prefix,
                    systems_by_answer, unknowns_of)


def first_of(system):
    return (unknowns_of(system), stripped_by_prefix(system))


def answered(start, many):
    """Pairs of a system and an answer of it: all small answers of small systems, and greater ones."""
    for system in systems_by_answer(start, 20, 60)[True]:
        for words in answers_by_trying(system, "ab", 3):
            yield (system, words)
    dealer = Dealer(start)
    for turn in range(many):
        yield dealt_with_answer(dealer, 1 + turn % 6, "AKXYZ"[:1 + turn % 5], "ab", 5)


def rooms_along(system, steps):
    """The rooms through which steps lead, the first one and the one behind all with them."""
    rooms = [first_of(system)]
    for step in steps:
        rooms.append(behind_by_search(rooms[-1], step))
    return rooms


class TheWay(unittest.TestCase):
    def test_by_hand(self):
        for text, words, told in (
            ("=", (), ((), ())),
            ("XY=XY", ("a", "bb"), ((), ("a", "bb"))),
            ("aX=Xa", ("",), ((("none", "X"),), ())),
            ("aX=Xa", ("aa",), ((("sign", "X", "a"), ("sign", "X", "a"), ("none", "X")), ())),
            ("X=ab", ("ab",), ((("sign", "X", "a"), ("sign", "X", "b"), ("none", "X")), ())),
            ("XY=YX", ("", "ab"), ((("none", "X"),), ("ab",))),
            ("XY=YX", ("ab", ""), ((("none", "Y"),), ("ab",))),
            ("XY=YX", ("", ""), ((("none", "X"),), ("",))),
            ("XY=YX", ("aa", "a"), ((("over", "X", "Y"), ("over", "X", "Y"), ("none", "X")), ("a",))),
            ("XY=YX", ("a", "aa"), ((("over", "Y", "X"), ("over", "X", "Y"), ("none", "X")), ("a",))),
            ("XY=YX", ("a", "a"), ((("over", "X", "Y"), ("none", "X")), ("a",))),
        ):
            with self.subTest(text=text, words=words):
                self.assertEqual(way_of(read_system(text), words), told)

    def test_by_the_first_step_onward(self):
        several = 0
        for system, words in answered(19, 300):
            steps, rest = way_of(system, words)
            self.assertLessEqual(kinds_within((steps, rest)), {tuple, str})
            self.assertLessEqual(len(steps), len("".join(words)) + len(words))
            here, room = words, first_of(system)
            for step in steps:
                able = [one for one in steps_by_search(room) if onward(room, one, here) is not None]
                self.assertEqual(step, able[0])
                several += len(able) > 1
                here, room = onward(room, step, here), behind_by_search(room, step)
            self.assertEqual((room[1], here), ((), rest))
        self.assertGreater(several, 100)

    def test_of_told_answers_of_any_length(self):
        for system in systems_by_answer(24, 40, 120)[True] + [OF_500_ROOMS, read_system("XabY=YbaX")]:
            words = one_answer(system)
            self.assertEqual(led_back(system, *way_of(system, words)), words)
        words = ("ab" * 2000 + "a",)
        self.assertEqual(len(way_of((("abX", "Xba"),), words)[0]), 4002)
        self.assertEqual(led_back((("abX", "Xba"),), *way_of((("abX", "Xba"),), words)), words)


class NoAnswers(unittest.TestCase):
    def assert_none(self, text, *fillings_handed):
        for words in fillings_handed:
            with self.subTest(text=text, words=words):
                self.assertEqual(refusal_of(way_of, read_system(text), words), (NoAnswer,))

    def test_words_that_are_none(self):
        self.assert_none("aX=Xa", ("b",), ("ab",), ("aab",), ("z",))
        self.assert_none("aX=Xb", ("",), ("a",), ("ab",))
        self.assert_none("XY=YX", ("a", "b"), ("ab", "ba"))
        self.assert_none("ab=ba", ())
        self.assert_none("X=X; a=b", ("",))

    def test_another_number_of_words(self):
        self.assert_none("aX=Xa", (), ("", ""), ("a", "a"), ("", "", ""))
        self.assert_none("=", ("",), ("a",), ("", ""))
        self.assert_none("XY=YX", (), ("",), ("", "", ""), ("a", "a", ""), ("a",))
        self.assert_none("XY=XY", (), ("a",), ("a", "b", "c"))

    def test_words_of_an_answer_with_one_sign_changed(self):
        for system, words in answered(20, 30):
            for others in list(changed_words(words, "abc")) + [words[:-1], words + ("",), words[1:] + ("a", "b")]:
                good = len(others) == len(words) and is_answer(system, unknowns_of(system), others)
                self.assertEqual(refusal_of(way_of, system, others)[0], None if good else NoAnswer)


class LedBack(unittest.TestCase):
    def test_by_hand(self):
        step = ("sign", "X", "a")
        for text, steps, rest, told in (
            ("=", (), (), ()),
            ("XY=XY", (), ("a", "bb"), ("a", "bb")),
            ("aX=Xa", (("none", "X"),), (), ("",)),
            ("aX=Xa", (step, step, ("none", "X")), (), ("aa",)),
            ("XY=YX", (("over", "X", "Y"), ("over", "Y", "X"), ("none", "X")), ("ab",), ("ab", "ab")),
            ("XY=YX", (("over", "X", "Y"), ("over", "X", "Y"), ("none", "X")), ("ab",), ("abab", "ab")),
            ("XY=YX", (("none", "Y"),), ("",), ("", "")),
        ):
            with self.subTest(text=text, steps=steps):
                self.assertEqual(led_back(read_system(text), steps, rest), told)

    def test_the_way_of_an_answer_leads_back_to_it(self):
        for system, words in answered(21, 120):
            steps, rest = way_of(system, words)
            self.assertEqual(led_back(system, steps, rest), words)

    def test_any_way_to_an_ended_room_leads_to_an_answer(self):
        dealer, many = Dealer(22), 0
        for system in systems_by_answer(22, 20, 60)[True]:
            rooms, ways = net_by_search(system)
            for _ in range(20):
                number, steps = 0, []
                while ways[number] and len(steps) < 12:
                    step, number = dealer.pick(ways[number])
                    steps.append(step)
                rest = tuple(dealer.word("ab", 2) for _ in rooms[number][0])
                told = refusal_of(led_back, system, tuple(steps), rest)
                if rooms[number][1]:
                    self.assertEqual(told, (NoWay, len(steps)))
                else:
                    words = rest
                    for room, step in reversed(list(zip(rooms_along(system, steps), steps))):
                        words = led(room, step, words)
                    self.assertEqual(told, (None, words))
                    self.assertTrue(is_answer(system, unknowns_of(system), words))
                    self.assertLessEqual(kinds_within(words), {tuple, str})
                    many += 1
        self.assertGreater(many, 100)


class NoWays(unittest.TestCase):
    def assert_no_way(self, text, steps, rest, at):
        with self.subTest(text=text, steps=steps, rest=rest):
            self.assertEqual(refusal_of(led_back, read_system(text), steps, rest), (NoWay, at))

    def test_by_hand(self):
        step, none = ("sign", "X", "a"), ("none", "X")
        self.assert_no_way("aX=Xa", (), ("",), 0)
        self.assert_no_way("aX=Xa", (step,), ("",), 1)
        self.assert_no_way("aX=Xa", (step, step), ("",), 2)
        self.assert_no_way("aX=Xa", (none,), ("",), 1)
        self.assert_no_way("aX=Xa", (none, none), (), 1)
        self.assert_no_way("aX=Xa", (step, ("sign", "X", "b"), none), (), 1)
        self.assert_no_way("aX=Xa", (("none", "Y"), step, none), (), 0)
        self.assert_no_way("aX=Xa", ((), step, none), (), 0)
        self.assert_no_way("aX=Xa", (("none",),), (), 0)
        self.assert_no_way("aX=Xb", (none,), (), 1)
        self.assert_no_way("aX=Xb", (none, none), (), 1)
        self.assert_no_way("a=b", (), (), 0)
        self.assert_no_way("=", (none,), (), 0)
        self.assert_no_way("=", (), ("",), 0)
        self.assert_no_way("XY=XY", (), ("a",), 0)
        self.assert_no_way("XY=XY", (), ("a", "b", ""), 0)
        self.assert_no_way("XY=XY", (), (), 0)

    def test_a_rest_that_is_no_tuple_of_words(self):
        for rest in (("A",), ("aX",), ("a1",), (" ",), (1,), (None,), (("a",),), (b"a",), ["a"], "a", None, 7):
            self.assert_no_way("X=X", (), rest, 0)
            self.assert_no_way("X=X; Y=", (("none", "Y"),), rest, 1)

    def test_the_first_step_that_is_none(self):
        for system, words in answered(23, 40):
            steps, rest = way_of(system, words)
            rooms = rooms_along(system, steps)
            for at in range(len(steps)):
                self.assertEqual(refusal_of(led_back, system, steps[:at], rest), (NoWay, at))
                for wrong in (("none", "Q"), ("sign", "X", "q"), ("over", "X", "X"), (), steps[at] + ("",)):
                    spoiled = steps[:at] + (wrong,) + steps[at + 1:]
                    self.assertEqual(refusal_of(led_back, system, spoiled, rest), (NoWay, at))
                    self.assertEqual(refusal_of(led_back, system, spoiled + ((),), rest + ("",)), (NoWay, at))
            for wrong in (steps[:1] or (("none", "X"),)) + ((),):
                self.assertEqual(refusal_of(led_back, system, steps + (wrong,), rest), (NoWay, len(steps)))
            self.assertEqual(rooms[-1][1], ())
            for other in (rest + ("",), rest[1:] if rest else ("a",), rest + rest + ("b",)):
                self.assertEqual(refusal_of(led_back, system, steps, other), (NoWay, len(steps)))

    def test_every_rest_is_taken(self):
        for rest in fillings("XY", "ab", 2):
            self.assertEqual(led_back(read_system("XY=XY"), (), rest), rest)

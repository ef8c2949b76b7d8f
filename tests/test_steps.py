"""The steps of a room, where they lead, and words led and led onward."""

import collections
import itertools
import unittest

from gapwords.errors import NoStep
from gapwords.steps import led, onward, stepped, steps_of
from helper import (Dealer, behind_by_search, dealt_system, dead_by_search, fillings, is_answer, kinds_within,
                    refusal_of, small_rooms, steps_by_search, stripped_by_prefix, unknowns_of)

SORTS = ("none", "sign", "over")


def dealt_rooms(start, turns):
    """Rooms of none to six equations, dealt and stripped, perhaps with a name that does not stand in them."""
    dealer = Dealer(start)
    for turn in range(turns):
        system = dealt_system(dealer, turn % 7, "KXYZ"[:turn % 5], "ab", 4)
        names = set(unknowns_of(system)) | set("AM"[:turn % 3])
        yield ("".join(sorted(names)), stripped_by_prefix(system))


def letters_of(room):
    return collections.Counter("".join(left + right for left, right in room[1]))


class Steps(unittest.TestCase):
    def test_by_hand(self):
        for equations, told in (
            ((("Xa", "bY"),), (("none", "X"), ("sign", "X", "b"))),
            ((("bY", "Xa"),), (("none", "X"), ("sign", "X", "b"))),
            ((("aX", "Xb"),), (("none", "X"), ("sign", "X", "a"))),
            ((("X", "a"),), (("none", "X"), ("sign", "X", "a"))),
            ((("X", ""),), (("none", "X"),)),
            ((("", "Y"),), (("none", "Y"),)),
            ((("YXX", ""),), (("none", "Y"),)),
            ((("", "XYX"),), (("none", "X"),)),
            ((("Xa", "Yb"),), (("none", "X"), ("none", "Y"), ("over", "X", "Y"), ("over", "Y", "X"))),
            ((("Y", "X"),), (("none", "Y"), ("none", "X"), ("over", "Y", "X"), ("over", "X", "Y"))),
            ((("XY", "YX"),), (("none", "X"), ("none", "Y"), ("over", "X", "Y"), ("over", "Y", "X"))),
        ):
            with self.subTest(equations=equations):
                self.assertEqual(steps_of(("XY", equations)), told)
                self.assertEqual(kinds_within(steps_of(("XY", equations))), {tuple, str})

    def test_the_first_equation_alone_tells_them(self):
        rest = (("X", "a"), ("", "Y"), ("Y", "X"))
        self.assertEqual(steps_of(("XYZ", (("Z", "b"),) + rest)), (("none", "Z"), ("sign", "Z", "b")))
        self.assertEqual(steps_of(("XYZ", rest)), (("none", "X"), ("sign", "X", "a")))
        self.assertEqual(steps_of(("XYZ", rest[1:])), (("none", "Y"),))

    def test_ended_and_dead_rooms_have_none(self):
        for room in (("", ()), ("XY", ()), ("X", (("a", "b"),)), ("X", (("aX", "bX"),)), ("X", (("Xa", ""),)),
                     ("X", (("", "a"),)), ("XY", (("X", "Y"), ("a", "b"))), ("XY", (("X", "a"), ("", "Yb"))),
                     ("XY", (("X", ""), ("X", "Y"), ("Ya", "")))):
            with self.subTest(room=room):
                self.assertEqual(steps_of(room), ())

    def test_all_small_rooms(self):
        many = collections.Counter()
        for room in small_rooms(3):
            self.assertEqual(steps_of(room), steps_by_search(room))
            many[len(steps_of(room))] += 1
        self.assertEqual(sorted(many), [0, 1, 2, 4])

    def test_dealt_rooms(self):
        for room in dealt_rooms(13, 400):
            self.assertEqual(steps_of(room), steps_by_search(room))


class Stepped(unittest.TestCase):
    def test_by_hand(self):
        for room, step, told in (
            (("X", (("aX", "Xa"),)), ("none", "X"), ("", ())),
            (("X", (("aX", "Xb"),)), ("none", "X"), ("", (("a", "b"),))),
            (("X", (("aX", "Xb"),)), ("sign", "X", "a"), ("X", (("aX", "Xb"),))),
            (("X", (("abX", "Xc"),)), ("sign", "X", "a"), ("X", (("baX", "Xc"),))),
            (("XY", (("XaY", "YX"),)), ("none", "Y"), ("X", (("a", ""),))),
            (("XYZ", (("XY", "Ya"), ("bX", "Zc"))), ("none", "X"), ("YZ", (("", "a"), ("b", "Zc")))),
            (("XY", (("Xa", "Yb"), ("bX", "Yc"))), ("over", "X", "Y"), ("XY", (("Xa", "b"), ("bYX", "Yc")))),
            (("XY", (("Xa", "Yb"), ("X", "cY"))), ("over", "Y", "X"), ("XY", (("a", "Yb"), ("X", "cXY")))),
            (("XY", (("XX", "Yb"),)), ("over", "X", "Y"), ("XY", (("XYX", "b"),))),
            (("XY", (("X", "a"), ("Yc", "aX"))), ("sign", "X", "a"), ("XY", (("X", ""), ("Yc", "aaX")))),
            (("XY", (("X", "a"), ("Xc", "aY"))), ("sign", "X", "a"), ("XY", (("X", ""), ("Xc", "Y")))),
            (("XYZ", (("", "YX"), ("XY", "Z"))), ("none", "Y"), ("XZ", (("", "X"), ("X", "Z")))),
            (("AXZ", (("X", ""),)), ("none", "X"), ("AZ", ())),
            (("AXZ", (("X", "a"),)), ("sign", "X", "a"), ("AXZ", (("X", ""),))),
        ):
            with self.subTest(room=room, step=step):
                self.assertEqual(stepped(room, step), told)

    def test_as_told_by_search_and_no_greater(self):
        sorts = collections.Counter()
        for room in itertools.chain(small_rooms(3), dealt_rooms(14, 400)):
            before = letters_of(room)
            for step in steps_by_search(room):
                behind = stepped(room, step)
                self.assertEqual(behind, behind_by_search(room, step))
                after = letters_of(behind)
                self.assertLessEqual(sum(after.values()), sum(before.values()))
                for letter, times in after.items():
                    self.assertLessEqual(times, before[letter] if letter.islower() else 2)
                self.assertEqual(behind[0], "".join(name for name in room[0] if step != ("none", name)))
                self.assertLessEqual(kinds_within(behind), {tuple, str})
                sorts[step[0]] += 1
        self.assertGreater(min(sorts[sort] for sort in SORTS), 100)

    def test_any_other_step_is_refused(self):
        letters = ("X", "Y", "a", "b", "")
        others = [()] + [(sort,) for sort in SORTS + ("", "X")]
        others += [(sort, one) for sort in SORTS + ("some", "") for one in letters]
        others += [(sort, one, other) for sort in SORTS + ("NONE",) for one in letters for other in letters]
        others += [("none", "X", "X", "X"), ("sign", "X", "a", "a"), ("over", "X", "Y", "X"), ("X", "none")]
        rooms = [room for room in small_rooms(2)] + [("XY", ()), ("X", (("X", ""),)), ("XYZ", (("X", "a"), ("Y", "b")))]
        for room in rooms:
            taken = steps_by_search(room)
            for step in others:
                told = refusal_of(stepped, room, step)
                self.assertEqual(told, (None, behind_by_search(room, step)) if step in taken else (NoStep,))

    def test_of_ended_and_dead_rooms_all_are_refused(self):
        for room in (("X", ()), ("X", (("aX", "bX"),)), ("X", (("X", ""), ("a", ""))), ("X", (("Xa", ""),))):
            for step in (("none", "X"), ("sign", "X", "a"), ("sign", "X", "b"), ("over", "X", "X"), ()):
                self.assertEqual(refusal_of(stepped, room, step), (NoStep,))


class WordsLed(unittest.TestCase):
    room = ("AXZ", (("XZ", "ZX"),))

    def test_led_by_hand(self):
        self.assertEqual(led(self.room, ("none", "X"), ("a", "z")), ("a", "", "z"))
        self.assertEqual(led(self.room, ("none", "Z"), ("a", "x")), ("a", "x", ""))
        self.assertEqual(led(self.room, ("over", "X", "Z"), ("a", "x", "zz")), ("a", "zzx", "zz"))
        self.assertEqual(led(self.room, ("over", "Z", "X"), ("a", "x", "zz")), ("a", "x", "xzz"))
        self.assertEqual(led(("AX", (("A", "b"),)), ("none", "A"), ("x",)), ("", "x"))
        self.assertEqual(led(("AX", (("A", "b"),)), ("sign", "A", "b"), ("c", "x")), ("bc", "x"))
        self.assertEqual(led(("AX", (("b", "Xa"),)), ("sign", "X", "b"), ("", "")), ("", "b"))
        self.assertEqual(led(("X", (("X", ""),)), ("none", "X"), ()), ("",))

    def test_onward_by_hand(self):
        self.assertEqual(onward(self.room, ("none", "X"), ("a", "", "z")), ("a", "z"))
        self.assertIsNone(onward(self.room, ("none", "X"), ("a", "x", "")))
        self.assertEqual(onward(self.room, ("none", "Z"), ("", "x", "")), ("", "x"))
        self.assertEqual(onward(self.room, ("over", "X", "Z"), ("a", "zzx", "zz")), ("a", "x", "zz"))
        self.assertEqual(onward(self.room, ("over", "X", "Z"), ("a", "zz", "zz")), ("a", "", "zz"))
        self.assertEqual(onward(self.room, ("over", "X", "Z"), ("a", "zz", "")), ("a", "zz", ""))
        self.assertIsNone(onward(self.room, ("over", "X", "Z"), ("a", "zx", "zz")))
        self.assertIsNone(onward(self.room, ("over", "X", "Z"), ("a", "xzz", "zz")))
        self.assertIsNone(onward(self.room, ("over", "Z", "X"), ("a", "zzx", "zz")))
        self.assertEqual(onward(("AX", (("A", "b"),)), ("sign", "A", "b"), ("bc", "x")), ("c", "x"))
        self.assertIsNone(onward(("AX", (("A", "b"),)), ("sign", "A", "b"), ("cb", "x")))
        self.assertIsNone(onward(("AX", (("A", "b"),)), ("sign", "A", "b"), ("", "b")))
        self.assertEqual(onward(("X", (("X", ""),)), ("none", "X"), ("",)), ())

    def test_answers_are_led_to_answers(self):
        many = 0
        for room in itertools.chain(small_rooms(2), dealt_rooms(15, 120)):
            for step in steps_by_search(room):
                behind = behind_by_search(room, step)
                for words in fillings(behind[0], "ab", 2):
                    told = led(room, step, words)
                    self.assertEqual(onward(room, step, told), words)
                    self.assertEqual(is_answer(room[1], room[0], told), is_answer(behind[1], behind[0], words))
                    self.assertLessEqual(kinds_within(told), {tuple, str})
                    many += is_answer(behind[1], behind[0], words)
        self.assertGreater(many, 1000)

    def test_onward_is_led_back_or_nothing_is_led_there(self):
        seen = collections.Counter()
        for room in small_rooms(2):
            for step in steps_by_search(room):
                behind = behind_by_search(room, step)
                by_led = {led(room, step, words): words for words in fillings(behind[0], "ab", 3)}
                for words in fillings(room[0], "ab", 3):
                    self.assertEqual(onward(room, step, words), by_led.get(words))
                    seen[words in by_led] += 1
        self.assertGreater(min(seen[True], seen[False]), 1000)

    def test_an_answer_goes_onward_by_one_step_at_least(self):
        many = 0
        for room in itertools.chain(small_rooms(3), dealt_rooms(16, 200)):
            if room[1]:
                for words in fillings(room[0], "ab", 2):
                    if is_answer(room[1], room[0], words):
                        self.assertFalse(dead_by_search(room))
                        on = [step for step in steps_of(room) if onward(room, step, words) is not None]
                        self.assertNotEqual(on, [])
                        many += 1
        self.assertGreater(many, 1000)

    def test_long_words(self):
        words = ("ab" * 3000, "b" * 1001 + "ab" * 3000, "")
        room = ("AXZ", (("XZ", "AX"),))
        self.assertEqual(led(room, ("over", "X", "A"), words), (words[0], words[0] + words[1], ""))
        self.assertEqual(onward(room, ("over", "X", "A"), (words[0], words[0] + words[1], "")), words)

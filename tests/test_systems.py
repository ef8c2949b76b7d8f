"""Systems: their names, their signs, and what is refused as none."""

import itertools
import string
import unittest

from gapwords.errors import NoSystem, Thrice, TooGreat
from gapwords.systems import check, names_of, signs_of
from helper import refusal_of, rows, things_of_other_kinds

NO_LETTERS = ("@", "[", "`", "{", " ", "=", ";", "-", "_", "0", "9", "~", "!", "\n", "\t", "\0",
              "\u00e9", "\u00c9", "\u00df", "\u0430", "\u0391", "\uff41", "\uff21", "\u00aa", "\U0001d41a")
TAKEN = (None, None)
REFUSED = (NoSystem,)


def asked(thing):
    return refusal_of(check, thing)


def third_by_cutting(system):
    """The first third place, told another way: the shortest beginning that has an unknown three times."""
    ahead = ""
    for equation, side in itertools.product(range(len(system)), range(2)):
        letters = system[equation][side]
        for end in range(1, len(letters) + 1):
            read = ahead + letters[:end]
            for unknown in string.ascii_uppercase:
                if read.count(unknown) == 3:
                    return (unknown, equation, side, end - 1)
        ahead += letters
    return None


class NamesAndSigns(unittest.TestCase):
    def assert_told(self, system, names, signs):
        with self.subTest(system=system):
            self.assertIsNone(check(system))
            self.assertEqual(names_of(system), names)
            self.assertEqual(signs_of(system), signs)
            self.assertIsInstance(names_of(system), str)
            self.assertIsInstance(signs_of(system), str)

    def test_one_to_six_equations(self):
        row = (("aX", "Xb"), ("YcY", ""), ("", "Zz"), ("ZAa", "mA"), ("", ""), ("Mq", "MB"))
        self.assert_told(row[:1], "X", "ab")
        self.assert_told(row[:2], "XY", "abc")
        self.assert_told(row[:3], "XYZ", "abcz")
        self.assert_told(row[:4], "AXYZ", "abcmz")
        self.assert_told(row[:5], "AXYZ", "abcmz")
        self.assert_told(row[:6], "ABMXYZ", "abcmqz")

    def test_each_once_and_rising(self):
        self.assert_told((("ZbYa", "YbZa"),), "YZ", "ab")
        self.assert_told((("zyx", "cbaabc"), ("FEDCBA", "ABCDEF")), "ABCDEF", "abcxyz")
        self.assert_told((("az", "AZ"),), "AZ", "az")

    def test_the_right_side_alone_and_the_last_equation_alone(self):
        self.assert_told((("", "Xa"),), "X", "a")
        self.assert_told((("", ""), ("", ""), ("", ""), ("", ""), ("", ""), ("", "bY")), "Y", "b")

    def test_without_letters_unknowns_or_signs(self):
        self.assert_told((("", ""),), "", "")
        self.assert_told((("", ""),) * 6, "", "")
        self.assert_told((("ab", "ba"),), "", "ab")
        self.assert_told((("XY", "YX"),), "XY", "")
        self.assert_told((("X", ""), ("", "c")), "X", "c")

    def test_every_letter(self):
        self.assert_told(((string.ascii_lowercase, ""),), "", string.ascii_lowercase)
        self.assert_told((("", string.ascii_lowercase[::-1]),), "", string.ascii_lowercase)
        for unknown in string.ascii_uppercase:
            self.assert_told(((unknown, "k" + unknown),), unknown, "k")


class NoSystems(unittest.TestCase):
    def assert_no_system(self, *things):
        for number, thing in enumerate(things):
            with self.subTest(number=number):
                self.assertEqual(asked(thing), REFUSED)

    def test_the_whole_is_of_another_kind(self):
        self.assert_no_system(*things_of_other_kinds())
        self.assert_no_system("", "aX=Xb", "ab")

    def test_an_equation_is_of_another_kind(self):
        for thing in things_of_other_kinds() + ["", "ab", "aX=Xb", "a", "abc"]:
            self.assert_no_system((thing,), (("a", "b"), thing), (thing, ("a", "b")))

    def test_a_side_is_of_another_kind(self):
        for thing in things_of_other_kinds() + [(), ("a",), ("a", "b")]:
            self.assert_no_system(((thing, "b"),), (("a", thing),), (("", ""), ("X", thing)), ((thing, thing),))

    def test_lists_in_the_place_of_tuples(self):
        self.assert_no_system([("a", "b")], (["a", "b"],), [["a", "b"]], (("a", "b"), ["a", "b"]), ((["a"], "b"),))

    def test_what_is_handed_in_stays_as_it_is(self):
        thing = [["aX", "Xb"], ["X", ""]]
        self.assert_no_system(thing)
        self.assertEqual(thing, [["aX", "Xb"], ["X", ""]])

    def test_none_and_seven_equations(self):
        self.assert_no_system((), (("", ""),) * 7, (("aX", "Xb"),) + (("", ""),) * 6, (("", ""),) * 100)
        for many in range(1, 7):
            self.assertEqual(asked((("", ""),) * many), TAKEN)

    def test_an_equation_of_none_one_three_sides(self):
        self.assert_no_system(((),), (("a",),), (("a", "b", "c"),), (("a", "b"), ("a",)), (("a", "b"), ("", "", "")))

    def test_equations_not_laid_in_a_tuple(self):
        self.assert_no_system(("a", "b"), ("a",), ("aX", "Xb"))

    def test_sides_with_other_signs_than_letters(self):
        for sign in NO_LETTERS:
            for side in (sign, "a" + sign, sign + "X", "aX" + sign + "Xa"):
                self.assert_no_system(((side, "a"),), (("a", side),), (("a", "a"), ("", side)))

    def test_every_sign_up_to_the_tilde(self):
        for number in range(128):
            letter = chr(number)
            expected = TAKEN if letter in string.ascii_letters else REFUSED
            with self.subTest(letter=letter):
                self.assertEqual(asked(((letter, ""),)), expected)
                self.assertEqual(asked((("a", "a" + letter),)), expected)

    def test_it_comes_ahead_of_the_others(self):
        self.assert_no_system(
            (("XXX", ""), ("a",)), (("XXX", "1"),), [("XXX", "")], (("XXX", ""),) * 7,
            (("a" * 41, "-"),), (("a" * 41, ""), None), (("ABCDEFG", " "),), (("ABCDEFG", ""),) + (("", ""),) * 6,
        )


class AThirdTime(unittest.TestCase):
    def test_at_each_side_and_place(self):
        spots = list(itertools.product(range(6), range(2), range(3)))
        for three in itertools.combinations(spots, 3):
            sides = [[list("abc"), list("abc")] for equation in range(6)]
            for equation, side, place in three:
                sides[equation][side][place] = "X"
            system = tuple(("".join(left), "".join(right)) for left, right in sides)
            self.assertEqual(asked(system), (Thrice, "X") + three[2])

    def test_the_first_of_several(self):
        self.assertEqual(asked((("XXX", ""),)), (Thrice, "X", 0, 0, 2))
        self.assertEqual(asked((("XXXXX", "X"),)), (Thrice, "X", 0, 0, 2))
        self.assertEqual(asked((("XY", "YX"), ("aY", "X"))), (Thrice, "Y", 1, 0, 1))
        self.assertEqual(asked((("YXXY", "bYX"),)), (Thrice, "Y", 0, 1, 1))
        self.assertEqual(asked((("AZ", "AZ"), ("", "ZA"), ("A", ""))), (Thrice, "Z", 1, 1, 0))

    def test_left_ahead_of_right_and_equation_by_equation(self):
        self.assertEqual(asked((("aaX", "X"), ("bX", "X"))), (Thrice, "X", 1, 0, 1))
        self.assertEqual(asked((("X", ""), ("abX", "X"))), (Thrice, "X", 1, 1, 0))

    def test_each_unknown(self):
        for unknown in string.ascii_uppercase:
            self.assertEqual(asked(((unknown, unknown), ("", "a" + unknown))), (Thrice, unknown, 1, 1, 1))

    def test_twice_is_taken_and_signs_may_stand_often(self):
        for system in ((("XX", ""),), (("X", "X"),), (("X", ""), ("", "X")), (("aaaa", "aaa"),), (("XXYY", "ZZ"),)):
            self.assertEqual(asked(system), TAKEN)

    def test_it_comes_ahead_of_too_many_letters(self):
        self.assertEqual(asked((("a" * 40, "XXX"),)), (Thrice, "X", 0, 1, 2))
        self.assertEqual(asked((("X" + "a" * 50, "b" * 60 + "X"), ("c" * 70 + "X", ""))), (Thrice, "X", 1, 0, 70))
        self.assertEqual(asked((("X" * 41, ""),)), (Thrice, "X", 0, 0, 2))

    def test_it_comes_ahead_of_too_many_unknowns(self):
        self.assertEqual(asked((("ABCDEFG", "GG"),)), (Thrice, "G", 0, 1, 1))
        self.assertEqual(asked(((string.ascii_uppercase * 3, ""),)), (Thrice, "A", 0, 0, 52))

    def test_all_small_systems(self):
        sides = list(rows("aXY", 3))
        for left, right in itertools.product(sides, repeat=2):
            system = ((left, right),)
            third = third_by_cutting(system)
            self.assertEqual(asked(system), TAKEN if third is None else (Thrice,) + third)
        sides = list(rows("aX", 2))
        for one, other, third_side, fourth in itertools.product(sides, repeat=4):
            system = ((one, other), (third_side, fourth))
            third = third_by_cutting(system)
            self.assertEqual(asked(system), TAKEN if third is None else (Thrice,) + third)


class TooMany(unittest.TestCase):
    def test_forty_and_forty_one_letters(self):
        for left in range(42):
            forty = (("a" * min(left, 40), "b" * (40 - min(left, 40))),)
            self.assertEqual(asked(forty), TAKEN)
            self.assertEqual(asked((("a" * left, "b" * (41 - left)),)), (TooGreat, 41, 40))

    def test_letters_of_all_equations(self):
        self.assertEqual(asked((("aaa", "bbb"),) * 5 + (("XX", "cccccYYa"),)), TAKEN)
        self.assertEqual(asked((("aaa", "bbb"),) * 5 + (("XX", "cccccYYab"),)), (TooGreat, 41, 40))
        self.assertEqual(asked((("aaaa", "bbbb"),) * 6), (TooGreat, 48, 40))

    def test_unknowns_are_letters_each_as_often_as_it_stands(self):
        twelve = "ABCDEFFEDCBA"
        self.assertEqual(asked(((twelve, "a" * 28),)), TAKEN)
        self.assertEqual(asked(((twelve, "a" * 29),)), (TooGreat, 41, 40))

    def test_how_many_letters(self):
        for many in (41, 42, 100, 4000):
            self.assertEqual(asked((("ab" * many, ""),)), (TooGreat, 2 * many, 40))

    def test_six_and_seven_unknowns(self):
        self.assertEqual(asked((("ABCDEF", ""),)), TAKEN)
        self.assertEqual(asked((("ABCDEF", "FEDCBA"),)), TAKEN)
        self.assertEqual(asked((("ABCDEFG", ""),)), (TooGreat, 7, 6))
        self.assertEqual(asked((("ABCDEFG", "GFEDCBA"),)), (TooGreat, 7, 6))
        self.assertEqual(asked((("A", "B"), ("C", "D"), ("E", "F"))), TAKEN)
        self.assertEqual(asked((("A", "B"), ("C", "D"), ("E", "F"), ("a", "Zb"))), (TooGreat, 7, 6))

    def test_how_many_unknowns(self):
        for many in range(1, 27):
            expected = TAKEN if many <= 6 else (TooGreat, many, 6)
            self.assertEqual(asked((("", string.ascii_uppercase[-many:]),)), expected)

    def test_signs_are_no_unknowns(self):
        self.assertEqual(asked((("abcdefghij", "ABCDEF"),)), TAKEN)

    def test_the_letters_come_first(self):
        self.assertEqual(asked((("ABCDEFG", "a" * 34),)), (TooGreat, 41, 40))
        self.assertEqual(asked((("ABCDEFG", "a" * 33),)), (TooGreat, 7, 6))
        self.assertEqual(asked(((string.ascii_uppercase, string.ascii_uppercase),)), (TooGreat, 52, 40))

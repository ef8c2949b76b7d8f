"""Reports of systems."""

import inspect
import unittest

from gapwords.errors import NoText, Thrice, TooGreat
from gapwords.reports import report
from gapwords.sums import lacking
from gapwords.tables import tuples_to
from gapwords.texts import show_system, show_words
from helper import (OF_500_ROOMS, OF_501_ROOMS, answers_by_trying, net_by_search, refusal_of, systems_by_answer,
                    things_of_other_kinds, unknowns_of)


def lines(*rows):
    return "\n".join(rows)


class Reports(unittest.TestCase):
    def test_no_answer(self):
        self.assertEqual(report("aabbX=Xabab"), lines("aabbX=Xabab", "rooms 8", "none"))
        self.assertEqual(report("ab=ba"), lines("ab=ba", "rooms 1", "none"))
        self.assertEqual(report("X=ab; X=ba"), lines("X=ab; X=ba", "rooms 3", "none"))

    def test_none_by_a_sum(self):
        self.assertEqual(report("aX=Xb"), lines("aX=Xb", "rooms 2", "none by 0 a"))
        self.assertEqual(report("a="), lines("a=", "rooms 1", "none by 0 a"))
        self.assertEqual(report("X=X; Y=b; Yb="), lines("X=X; Y=b; Yb=", "rooms 1", "none by 2 b"))
        self.assertEqual(report("XX=aba"), lines("XX=aba", "rooms 7", "none by 0 b"))

    def test_answers(self):
        self.assertEqual(report("abX=Xba"), lines("abX=Xba", "rooms 4", "= X=a", "= X=aba", "least 1"))
        self.assertEqual(report("X=ab"), lines("X=ab", "rooms 6", "= X=ab", "least 2"))
        self.assertEqual(report("XY=ab", "ab", 2), lines(
            "XY=ab", "rooms 9", "= X= Y=ab", "= X=a Y=b", "= X=ab Y=", "least 2"))
        self.assertEqual(report("aX=Xa", "a", 1), lines("aX=Xa", "rooms 2", "= X=", "= X=a", "least 0"))
        self.assertEqual(report("aX=Xa", "bc", 1), lines("aX=Xa", "rooms 2", "= X=", "least 0"))
        self.assertEqual(report("="), lines("=", "rooms 1", "= ", "least 0"))
        self.assertEqual(report("ab=ab; =", "z", 0), lines("ab=ab; =", "rooms 1", "= ", "least 0"))

    def test_longer(self):
        self.assertEqual(report("X=abab"), lines("X=abab", "rooms 10", "longer"))
        self.assertEqual(report("X=ab", "a"), lines("X=ab", "rooms 6", "longer"))
        self.assertEqual(report("X=ab", "ab", 1), lines("X=ab", "rooms 6", "longer"))
        self.assertEqual(report("abX=Xba", "ab", 0), lines("abX=Xba", "rooms 4", "longer"))

    def test_signs_and_most_left_out(self):
        for text in ("XY=YX", "abX=Xba", "aX=Xb", "X=abab", "X=c"):
            self.assertEqual(report(text), report(text, "ab", 3))
            self.assertEqual(report(text, "abc"), report(text, "abc", 3))
            self.assertEqual(report(text, most=2), report(text, "ab", 2))
        self.assertEqual([one.default for one in inspect.signature(report).parameters.values()][1:], ["ab", 3])

    def test_put_together_of_its_parts(self):
        for answered, systems in systems_by_answer(37, 60, 120).items():
            by_sum = {True: 0, False: 0}
            for system in systems:
                names = unknowns_of(system)
                found = answers_by_trying(system, "ab", 3)
                told = [show_system(system), f"rooms {len(net_by_search(system)[0])}"]
                if not answered:
                    lack = lacking(system)
                    told.append("none" if lack is None else f"none by {lack[0]} {lack[1]}")
                    by_sum[lack is None] += 1
                elif found:
                    told += ["= " + show_words(names, words) for words in found]
                    told.append(f"least {sum(map(len, found[0]))}")
                else:
                    told.append("longer")
                self.assertEqual(report(show_system(system)), "\n".join(told))
            self.assertEqual(min(by_sum.values()) > 3, not answered)


class NotReported(unittest.TestCase):
    def test_refused_as_it_is_read(self):
        for number, thing in enumerate(things_of_other_kinds() + [(), ("aX=Xa",), (("aX", "Xa"),)]):
            with self.subTest(number=number):
                self.assertEqual(refusal_of(report, thing), (NoText,))
        for text in ("", "aX", "aX=Xa;", "aX = Xa", "aX=Xa\n", "; ".join(["a=a"] * 7)):
            self.assertEqual(refusal_of(report, text), (NoText,))
        self.assertEqual(refusal_of(report, "XX=aX"), (Thrice, "X", 0, 1, 1))
        self.assertEqual(refusal_of(report, "a" * 41 + "="), (TooGreat, 41, 40))
        self.assertEqual(refusal_of(report, "ABCDEFG="), (TooGreat, 7, 6))

    def test_read_ahead_of_the_rest(self):
        self.assertEqual(refusal_of(report, "ABCDEFG=", "abcdef", 20), (TooGreat, 7, 6))
        self.assertEqual(refusal_of(report, "", "abcdef", 20), (NoText,))

    def test_rooms_ahead_of_tuples(self):
        text = show_system(OF_501_ROOMS)
        self.assertEqual(refusal_of(report, text), (TooGreat, 501, 500))
        self.assertEqual(refusal_of(report, text, "ab", 5), (TooGreat, 501, 500))
        self.assertEqual(refusal_of(report, text, "abcdef", 20), (TooGreat, 501, 500))
        self.assertTrue(report(show_system(OF_500_ROOMS), "ab", 2).startswith("ZAA=bXBXY\nrooms 500\n= "))

    def test_too_many_tuples(self):
        for text in ("XY=YX", "aX=Xb; Y=Y", "X=Y; ab=ba"):
            self.assertEqual(refusal_of(report, text, "ab", 8)[0], None)
            self.assertEqual(refusal_of(report, text, "ab", 9), (TooGreat, tuples_to(2, 2, 9), 5000))
        self.assertEqual(refusal_of(report, show_system(OF_500_ROOMS), "ab", 5), (TooGreat, tuples_to(5, 2, 5), 5000))

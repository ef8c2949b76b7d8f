"""The classes of the refusals: how they stand to one another, and their fields."""

import unittest

from gapwords import errors

OF_A_TEXT = ("NoSystem", "NoText", "NoName", "Twice", "NoStep", "NoAnswer", "NoFit")
WITH_FIELDS = {
    "Thrice": (("unknown", "X"), ("equation", 4), ("side", 1), ("place", 7)),
    "TooGreat": (("many", 41), ("most", 40)),
    "NoWay": (("at", 3),),
}
ALL_TEN = OF_A_TEXT + tuple(WITH_FIELDS)


def class_of(name):
    return getattr(errors, name)


class TheClasses(unittest.TestCase):
    def test_gap_error_stands_right_under_value_error(self):
        self.assertEqual(errors.GapError.__bases__, (ValueError,))

    def test_each_stands_right_under_gap_error(self):
        for name in ALL_TEN:
            with self.subTest(name=name):
                self.assertEqual(class_of(name).__bases__, (errors.GapError,))

    def test_none_stands_under_another(self):
        self.assertEqual(len(set(ALL_TEN)), 10)
        for one in ALL_TEN:
            for other in ALL_TEN:
                with self.subTest(one=one, other=other):
                    self.assertEqual(issubclass(class_of(one), class_of(other)), one == other)

    def test_seven_are_handed_a_text(self):
        for name in OF_A_TEXT:
            with self.subTest(name=name):
                refusal = class_of(name)("some words")
                self.assertEqual(str(refusal), "some words")
                with self.assertRaises(class_of(name)):
                    raise refusal

    def test_three_are_handed_their_fields_in_order(self):
        for name, fields in WITH_FIELDS.items():
            with self.subTest(name=name):
                refusal = class_of(name)(*[value for field, value in fields])
                self.assertEqual([(field, getattr(refusal, field)) for field, value in fields], list(fields))
                with self.assertRaises(errors.GapError):
                    raise refusal

    def test_fields_are_each_object_s_own(self):
        one, other = errors.TooGreat(501, 500), errors.TooGreat(7, 6)
        self.assertEqual((one.many, one.most, other.many, other.most), (501, 500, 7, 6))

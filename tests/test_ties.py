"""Systems tied by lengths."""

import itertools
import unittest

from gapwords.texts import read_system
from gapwords.ties import tied
from helper import Dealer, dealt_system, dealt_systems, dealt_with_answer, fillings, is_answer, kinds_within, unknowns_of


def tied_by_flood(system, lengths):
    """The ties of a system, told another way: spots joined by pairs, flooded from each place in order."""
    names = unknowns_of(system)
    length_of = dict(zip(names, lengths))
    pairs = []
    for number, sides in enumerate(system):
        spots = []
        for side_number, side in enumerate(sides):
            row = []
            for place, letter in enumerate(side):
                if letter.islower():
                    row.append((letter, number, side_number, place))
                else:
                    row += [(letter, at) for at in range(length_of[letter])]
            spots.append(row)
        if len(spots[0]) != len(spots[1]):
            return None
        pairs += zip(*spots)
    found, many, told = {}, 0, {}
    every = [(name, at) for name in names for at in range(length_of[name])]
    for spot in every + [spot for pair in pairs for spot in pair]:
        if spot not in found:
            flood = {spot}
            while True:
                more = {one for pair in pairs if flood & set(pair) for one in pair}
                if more <= flood:
                    break
                flood |= more
            signs = {one[0] for one in flood if one[0].islower()}
            if len(signs) > 1:
                return None
            name = min(signs) if signs else many
            many += not signs
            found.update(dict.fromkeys(flood, spot))
            told[spot] = name
    return tuple(tuple(told[found[(name, at)]] for at in range(length_of[name])) for name in names)


def words_of(pattern, signs):
    """All words that come of putting any signs for the numbers."""
    numbers = sorted({spot for row in pattern for spot in row if isinstance(spot, int)})
    for chosen in itertools.product(signs, repeat=len(numbers)):
        yield tuple("".join(spot if isinstance(spot, str) else chosen[spot] for spot in row) for row in pattern)


class Tied(unittest.TestCase):
    def test_by_hand(self):
        for text, lengths, told in (
            ("=", (), ()),
            ("ab=ab", (), ()),
            ("ab=ba", (), None),
            ("a=", (), None),
            ("X=X", (0,), ((),)),
            ("X=X", (3,), ((0, 1, 2),)),
            ("X=ab", (2,), (("a", "b"),)),
            ("X=ab", (1,), None),
            ("X=ab", (3,), None),
            ("aX=Xa", (3,), (("a", "a", "a"),)),
            ("aX=Xb", (3,), None),
            ("aX=Xb", (0,), None),
            ("abX=Xba", (3,), (("a", "b", "a"),)),
            ("abX=Xba", (2,), None),
            ("XY=YX", (2, 4), ((0, 1), (0, 1, 0, 1))),
            ("XY=YX", (2, 3), ((0, 0), (0, 0, 0))),
            ("XY=YX", (0, 3), ((), (0, 1, 2))),
            ("XaY=YaX", (1, 2), (("a",), ("a", "a"))),
            ("XaY=YaX", (1, 1), ((0,), (0,))),
            ("XY=ZZ", (1, 3, 2), ((0,), (1, 0, 1), (0, 1))),
            ("YX=ZZ", (3, 1, 2), ((0, 1, 0), (1,), (1, 0))),
            ("ZX=Yab", (3, 1, 0), ((0, "a", "b"), (0,), ())),
            ("ZX=Yab", (2, 1, 1), (("a", "b"), (0,), (0,))),
            ("X=Y; Y=ab", (2, 2), (("a", "b"), ("a", "b"))),
            ("X=Y; Y=Z; Za=bW", (1, 1, 1, 1), (("a",), ("b",), ("b",), ("b",))),
            ("X=Y; Z=Y; X=aW; Z=Wa", (1, 2, 2, 2), (("a",), ("a", "a"), ("a", "a"), ("a", "a"))),
            ("X=Y; Z=Y; X=aW; Z=Wb", (1, 2, 2, 2), None),
            ("A=B; C=D", (1, 1, 2, 2), ((0,), (0,), (1, 2), (1, 2))),
        ):
            with self.subTest(text=text, lengths=lengths):
                self.assertEqual(tied(read_system(text), lengths), told)

    def test_numbers_in_the_order_in_which_places_come_first(self):
        self.assertEqual(tied(read_system("Z=Y; Y=X"), (2, 2, 2)), ((0, 1),) * 3)
        self.assertEqual(tied(read_system("ZY=XW"), (1, 1, 1, 1)), ((0,), (1,), (0,), (1,)))
        self.assertEqual(tied(read_system("ABC=aDE"), (1, 1, 1, 1, 1)), (("a",), (0,), (1,), (0,), (1,)))

    def test_as_told_by_flood(self):
        dealer, seen = Dealer(21), {True: 0, False: 0}
        for turn in range(300):
            system = dealt_system(dealer, 1 + turn % 4, "KXYZ"[:1 + turn % 4], "ab", 4)
            lengths = tuple(dealer.below(4) for _ in unknowns_of(system))
            system, words = (system, None) if turn % 2 else dealt_with_answer(dealer, 1 + turn % 6, "AKXYZ", "ab", 4)
            if words is not None:
                lengths = tuple(len(word) for word in words)
            told = tied(system, lengths)
            self.assertEqual(told, tied_by_flood(system, lengths))
            self.assertLessEqual(kinds_within(told), {tuple, str, int, type(None)})
            seen[told is None] += 1
            if words is not None:
                self.assertIn(words, list(words_of(told, "ab")))
        self.assertGreater(min(seen.values()), 50)

    def test_so_come_the_answers_of_these_lengths(self):
        many = 0
        for system in dealt_systems(22, 60):
            names = unknowns_of(system)
            by_lengths = {}
            for words in fillings(names, "abc", 3):
                good = by_lengths.setdefault(tuple(map(len, words)), set())
                if is_answer(system, names, words):
                    good.add(words)
            for lengths, answers in by_lengths.items():
                told = tied(system, lengths)
                self.assertEqual(set() if told is None else set(words_of(told, "abc")), answers)
                many += len(answers)
        self.assertGreater(many, 1000)

    def test_sixty_places(self):
        self.assertEqual(tied(read_system("XY=YX"), (24, 36)), (tuple(range(12)) * 2, tuple(range(12)) * 3))
        self.assertEqual(tied(read_system("aX=Xa"), (60,)), (("a",) * 60,))
        self.assertEqual(tied(read_system("ABC=DEF"), (10,) * 6), tied_by_flood(read_system("ABC=DEF"), (10,) * 6))

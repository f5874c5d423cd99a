"""Rounds of voices by units: [500], [501], [510], [513], and tacthouse.units."""

import unittest
from math import gcd

from tacthouse.errors import BadNumber, BadRound, BadScore, BadVoice, TooMany
from tacthouse.units import board_of, most_singers, unit_of
from tests import making, plain
from tests.refusing import NO_INTEGERS, ODD, Refusing
from tests.test_sounds import MANY

A = ("block", (((0, 2), (None, 1)),))
SCORE = (A, ("again", 0, 4))
TOO_MANY = MANY + (("turned", 30), ("then", 30, 31))
VERY = (("block", (((None, 2), (3, 1), (3, 2), (None, 1)), ((4, 6),))), ("again", 0, 10 ** 12), ("again", 1, 10 ** 12),
        ("again", 2, 10 ** 12), ("again", 3, 1666))
MANY_TIMES = 1666 * 10 ** 36


def unit(score, voice, ticks):
    for _, long in plain.events(score, voice):
        ticks = gcd(ticks, long)
    return ticks


def pitches(score, voice, one):
    """What the voice has at each UNIT."""
    return [pitch for pitch, _ in plain.sounds(score, voice)[::one]]


def board(units, span):
    """The BOARD, by the words of [510]."""
    rows = []
    for rest in range(span):
        places = {}
        for at in range(rest, len(units), span):
            if units[at] is not None:
                places.setdefault(units[at], []).append(at)
        rows.append(tuple((pitch, places[pitch][0], places[pitch][-1]) for pitch in sorted(places)))
    return tuple(rows)


def no_rounds(voices):
    """Values that are no ROUNDS of a score with so many voices."""
    found = [0, [0, 1, 0], (0, 1), (0, 1, 0, 0), (voices, 1, 0), (-1, 1, 0), (True, 1, 0), (None, 1, 0), (0, 0, 0), (0, -1, 0), (0, 10 ** 40 + 1, 0),
             (0, True, 0), (0, None, 0), (0, 1, 25), (0, 1, -25), (0, 1, False), (0, 1, None), (0, 1, 10 ** 900), ("0", 1, 0), (0, "1", 0), (0, 1, "0"), ((0, 1, 0),)]
    return list(ODD) + found


class Units(Refusing, unittest.TestCase):
    def test_arguments(self):
        self.assertEqual(unit_of(score=SCORE, voice=0, delay=6), 1)
        self.assertEqual(board_of(score=SCORE, voice=0, delay=3), (((0, 0, 9),), ((0, 1, 10),), ()))
        self.assertEqual(most_singers(score=SCORE, song=(0, 3, 7)), 8)

    def test_against_a_plain_look(self):
        units = set()
        for start in range(260):
            numbers = making.Numbers(start + 8)
            voices = 1 + numbers.below(3)
            score = making.score(numbers, voices, 2 + numbers.below(11), 120)
            if start % 3 == 0:
                score += (("slow", len(score) - 1, 2 + numbers.below(2)),)
            voice = numbers.below(voices)
            for delay in (1, 2, 6, 12, 1 + numbers.below(60), 1 + numbers.below(200), 10 ** 40):
                one = unit(score, voice, delay)
                units.add(one)
                self.assertEqual(self.same(unit_of, score, voice, delay), one)
                if delay // one > 48:
                    self.refused(TooMany, 48, board_of, score, voice, delay)
                else:
                    told = board(pitches(score, voice, one), delay // one)
                    self.assertEqual(self.same(board_of, score, voice, delay), told, (score, voice, delay))
        self.assertTrue({1, 2, 3, 4} <= units)

    def test_again_and_again(self):
        """Against the same written out, times so many rounds."""
        row = ((0, 2), (None, 1), (5, 1), (7, 3))
        for delay in (1, 3, 7, 14, 10, 42, 48):
            for many in (1, 2, 3, 7, 47, 48, 49, 100):
                score = (("block", (row,)), ("again", 0, many))
                self.assertEqual(board_of(score, 0, delay), board(pitches(score, 0, 1), delay))
            # What is first is so behind 48 rounds; what is last is as far from the end.
            lap = delay // gcd(delay, 7)
            for many in (10 ** 12, 10 ** 12 - 5):
                few = 48 + lap - (48 - many) % lap
                self.assertEqual((many - few) % lap, 0)
                small = board_of((("block", (row,)), ("again", 0, few)), 0, delay)
                more = (many - few) * 7
                told = tuple(tuple((pitch, first, last + more) for pitch, first, last in places) for places in small)
                self.assertEqual(board_of((("block", (row,)), ("again", 0, many)), 0, delay), told)

    def test_very_long(self):
        last = 6 * (MANY_TIMES - 1)
        self.assertEqual(board_of(VERY, 0, 6), ((), (), ((3, 2, last + 2),), ((3, 3, last + 3),), ((3, 4, last + 4),), ()))
        self.assertEqual(board_of(VERY, 1, 6), (((4, 0, MANY_TIMES - 1),),))
        self.assertEqual(unit_of(VERY, 1, 10 ** 40), 2)
        self.assertEqual(board_of(VERY, 1, 288), tuple(((4, rest, MANY_TIMES - 48 + (rest - MANY_TIMES) % 48),) for rest in range(48)))
        back = VERY + (("back", 4), ("up", 5, 2))
        self.assertEqual(board_of(back, 0, 6), ((), ((5, 1, last + 1),), ((5, 2, last + 2),), ((5, 3, last + 3),), (), ()))
        two = VERY[:4] + (("turned", 3), ("then", 3, 4))
        half = 10 ** 36
        self.assertEqual(board_of(two, 0, 6)[2], ((-3, 6 * half + 2, 12 * half - 4), (3, 2, 6 * half - 4)))

    def test_units_of_what_is_asked_for(self):
        """Rows that are not asked for do not matter, those that are asked for as they are, slow ones too."""
        odd, even = ("block", (((0, 1), (None, 5)),)), ("block", (((0, 6), (None, 12)),))
        self.assertEqual(unit_of((odd, even), 0, 36), 6)
        self.assertEqual(unit_of((odd, even, ("then", 0, 1)), 0, 36), 1)
        self.assertEqual(unit_of((odd, even, ("slow", 0, 3), ("then", 1, 2)), 0, 36), 3)
        self.assertEqual(unit_of((odd, even, ("slow", 0, 3), ("then", 1, 2)), 0, 35), 1)
        rests = ("block", (((None, 2), (None, 4)),))
        # Rests side by side count as they stand.
        self.assertEqual((unit_of((rests,), 0, 6), board_of((rests,), 0, 6)), (2, ((), (), ())))
        self.assertEqual(unit_of(VERY, 1, 7), 1)
        self.assertEqual(unit_of(VERY, 1, 8), 2)

    def test_spans(self):
        self.assertEqual(len(board_of(SCORE, 0, 48)), 48)
        self.refused(TooMany, 48, board_of, SCORE, 0, 49)
        self.assertEqual(len(board_of(VERY, 1, 288)), 48)
        self.refused(TooMany, 48, board_of, VERY, 1, 294)
        self.refused(TooMany, 48, board_of, VERY, 0, 10 ** 40)

    def test_most_singers(self):
        for start in range(200):
            numbers = making.Numbers(start + 5)
            score = making.score(numbers, 2, 2 + numbers.below(9), 60)
            for up in (-24, -7, -1, 0, 1, 5, 24):
                heard = [pitch for pitch, _ in plain.sounds(score, 1) if pitch is not None]
                told = None
                if up and heard:
                    told = 0
                    while all(-60 <= pitch + (told + 1) * up <= 60 for pitch in heard):
                        told += 1
                self.assertEqual(self.same(most_singers, score, (1, 9, up)), told)
        edge = (("block", (((60, 1), (-60, 1)),)),)
        self.assertEqual([most_singers(edge, (0, 1, up)) for up in (-24, -1, 0, 1, 24)], [0, 0, None, 0, 0])
        self.assertEqual([most_singers((("block", (((37, 1), (None, 1)),)),), (0, 1, up)) for up in (23, 24, -24, -1)], [1, 0, 4, 97])
        self.assertIsNone(most_singers((("block", (((None, 2),),)),), (0, 1, 24)))
        self.assertEqual(most_singers(VERY, (0, 10 ** 40, 1)), 57)

    def test_errors(self):
        for call in (unit_of, board_of):
            for odd in NO_INTEGERS + (0, -1, 10 ** 40 + 1, 10 ** 900):
                self.refused(BadNumber, odd, call, SCORE, 0, odd)
            for odd in NO_INTEGERS + (-1, 1, 10 ** 900):
                self.refused(BadVoice, odd, call, SCORE, odd, None)
            self.refused(BadScore, None, call, None, None, None)
            self.refused(BadScore, 1, call, (A, None), None, None)
            self.refused(TooMany, 200, call, TOO_MANY, None, None)
        for odd in no_rounds(1):
            self.refused(BadRound, odd, most_singers, SCORE, odd)
        self.refused(BadScore, None, most_singers, None, None)
        self.refused(TooMany, 200, most_singers, TOO_MANY, None)
        self.assertIsNone(most_singers(SCORE, (0, 10 ** 40, 0)))


if __name__ == "__main__":
    unittest.main()

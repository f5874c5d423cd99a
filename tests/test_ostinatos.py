"""Ostinatos beside a voice: [550], and tacthouse.ostinatos."""

import unittest
from math import gcd

from tacthouse.errors import BadGood, BadNumber, BadRow, BadScore, BadVoice, TooMany
from tacthouse.ostinatos import clean_shifts, ostinato_clash
from tests import making, plain
from tests.refusing import NO_INTEGERS, ODD, Refusing
from tests.test_units import SCORE, TOO_MANY, VERY, A, unit

GOOD = (0, 3, 4, 7, 8, 9)
ROW = ((0, 1), (None, 1), (7, 2))


def ticks_of(row):
    return [pitch for pitch, long in row for _ in range(long)]


def span_of(score, voice, row):
    """(UNIT, SPAN)."""
    one = unit(score, voice, len(ticks_of(row)))
    for _, long in row:
        one = gcd(one, long)
    return one, len(ticks_of(row)) // one


def clash(score, voice, row, good, shift):
    """The first tick at which they clash, tick by tick."""
    own, one = ticks_of(row), span_of(score, voice, row)[0]
    for tick, (pitch, _) in enumerate(plain.sounds(score, voice)):
        other = own[(tick - shift * one) % len(own)]
        if pitch is not None and other is not None and (other - pitch) % 12 not in good:
            return tick
    return None


class Ostinatos(Refusing, unittest.TestCase):
    def test_arguments(self):
        self.assertEqual(clean_shifts(score=SCORE, voice=0, ostinato=ROW, good=(0,)), ())
        self.assertEqual(ostinato_clash(score=SCORE, voice=0, ostinato=ROW, good=(0,), shift=1), 0)
        self.assertEqual(ostinato_clash(SCORE, 0, ROW, (0,), 0), 3)
        # Two of three ticks sound, the third one is the row's.
        self.assertEqual(clean_shifts(SCORE, 0, ((5, 1), (None, 2)), ()), (2,))

    def test_against_a_plain_look(self):
        counts, spans = {True: 0, False: 0, "shifted": 0}, set()
        for start in range(300):
            numbers = making.Numbers(start + 99)
            voices = 1 + numbers.below(3)
            score = making.score(numbers, voices, 2 + numbers.below(11), 100)
            if start % 3 == 0:
                score += (("slow", len(score) - 1, 2 + numbers.below(2)),)
            voice, row = numbers.below(voices), making.row(numbers, 1 + numbers.below(12), 5)
            if start % 5 == 0:
                row = tuple((pitch, long * 6) for pitch, long in row)
            good = tuple(rest for rest in range(12) if numbers.below(6))
            one, span = span_of(score, voice, row)
            spans.add(span)
            if span > 48:
                self.refused(TooMany, 48, clean_shifts, score, voice, row, good)
                continue
            ticks = [clash(score, voice, row, good, shift) for shift in range(span)]
            for shift in range(span):
                self.assertEqual(self.same(ostinato_clash, score, voice, row, good, shift), ticks[shift], (score, voice, row, good, shift))
                counts[ticks[shift] is None] += 1
            self.assertEqual(self.same(clean_shifts, score, voice, row, good), tuple(shift for shift in range(span) if ticks[shift] is None))
            counts["shifted"] += 0 < ticks.count(None) < span
            self.refused(BadNumber, span, ostinato_clash, score, voice, row, good, span)
        self.assertTrue(min(counts.values()) > 40 and len(spans) > 15, (counts, spans))

    def test_the_ostinato_less_the_voice(self):
        one = (("block", (((0, 2),),)),)
        self.assertEqual(clean_shifts(one, 0, ((4, 2),), (4,)), (0,))
        self.assertEqual(clean_shifts(one, 0, ((4, 2),), (8,)), ())
        self.assertEqual(clean_shifts(one, 0, ((-60, 2),), (0,)), (0,))
        # The last unit of the row comes first by a shift of 1.
        row = ((0, 1), (4, 1), (7, 1))
        self.assertEqual([clean_shifts((("block", (((0, 1),),)),), 0, row, (rest,)) for rest in (0, 4, 7)], [(0,), (2,), (1,)])
        self.assertEqual(clean_shifts((("block", (((None, 4),),)),), 0, row, ()), (0, 1, 2))
        self.assertEqual(clean_shifts(one, 0, ((None, 4),), ()), (0, 1))
        self.assertEqual(clean_shifts(one, 0, ((None, 3),), ()), (0, 1, 2))

    def test_units(self):
        """The LONGS of the voice and of the row, and the LENGTH of the row."""
        even = (("block", (((0, 4), (None, 8)),)), ("again", 0, 9))
        self.assertEqual(len(clean_shifts(even, 0, ((None, 8), (0, 4)), GOOD)), 3)
        self.assertEqual(len(clean_shifts(even, 0, ((None, 8), (0, 6)), GOOD)), 7)
        self.assertEqual(len(clean_shifts(even, 0, ((None, 9), (0, 3)), GOOD)), 12)
        self.assertEqual(len(clean_shifts((("block", (((0, 3),),)),), 0, ((None, 8), (0, 4)), GOOD)), 12)
        # A tick is told, not a unit.
        self.assertEqual(ostinato_clash(even, 0, ((None, 8), (1, 4)), (0,), 0), None)
        self.assertEqual(ostinato_clash(even, 0, ((None, 8), (1, 8)), (0,), 0), 12)
        self.assertEqual(ostinato_clash(even, 0, ((None, 8), (1, 4)), (0,), 1), 0)

    def test_spans(self):
        """A SPAN of 48, and of more; a ROW may be longer than one of a BLOCK."""
        slow = (("block", (((0, 24),),)), ("again", 0, 100))
        for row, span in ((((0, 24), (None, 24)), 2), (((None, 96),) * 12, 48), (((None, 47), (0, 1)), 48), (((0, 1),) * 12, 12),
                          (((None, 24), (4, 96)), 5)):
            self.assertEqual(span_of(slow, 0, row)[1], span)
            self.assertEqual(clean_shifts(slow, 0, row, GOOD), tuple(range(span)))
            self.assertEqual(clean_shifts(slow, 0, row, (1,)), tuple(range(span)) if row[0][0] is None and (0, 1) not in row and (4, 96) not in row else ())
        for row in (((0, 48), (None, 1)), ((None, 96),) * 11 + ((None, 95),), ((0, 25), (None, 24))):
            self.refused(TooMany, 48, clean_shifts, slow, 0, row, GOOD)
            for odd in (None, 0, -1, 50):
                self.refused(TooMany, 48, ostinato_clash, slow, 0, row, GOOD, odd)
        wide = ((None, 96),) * 11 + ((1, 96),)
        self.assertEqual(ostinato_clash(slow, 0, wide, (0,), 0), 96 * 11)
        self.assertEqual(ostinato_clash(slow, 0, wide, (0,), 47), 96 * 11 - 24)
        self.assertEqual(ostinato_clash(slow, 0, wide, (0,), 4), 0)
        self.assertEqual(clean_shifts(slow, 0, wide, (1,)), tuple(range(48)))

    def test_very_long(self):
        # The voice 0 sounds at three ticks of six: a row of six ticks goes between, at one of six shifts or at more.
        self.assertEqual(clean_shifts(VERY, 0, ((9, 3), (None, 3)), ()), (5,))
        self.assertEqual(clean_shifts(VERY, 0, ((9, 2), (None, 4)), ()), (0, 5))
        self.assertEqual(clean_shifts(VERY, 0, ((9, 3), (None, 3)), (6,)), (0, 1, 2, 3, 4, 5))
        self.assertEqual(ostinato_clash(VERY, 0, ((9, 3), (None, 3)), (), 0), 2)
        self.assertEqual(ostinato_clash(VERY, 0, ((9, 3), (None, 3)), (), 4), 4)
        # A row of seven ticks comes to each rest.
        self.assertEqual(clean_shifts(VERY, 0, ((9, 1), (None, 6)), ()), ())
        # Half of it higher: the first clash is there.
        two = VERY[:4] + (("up", 3, 1), ("then", 3, 4))
        half = 6 * 10 ** 36
        self.assertEqual(ostinato_clash(two, 0, ((3, 6),), (0,), 0), half + 2)
        self.assertEqual(clean_shifts(two, 0, ((3, 6),), (0, 11)), tuple(range(6)))
        met = next(tick for tick in range(half, half + 100) if tick % 6 in (2, 3, 4) and tick % 7 == 1)
        self.assertEqual(ostinato_clash(two, 0, ((None, 1), (3, 1), (None, 5)), (0,), 0), met)
        # A single note behind all else.
        end = VERY[:4] + (("block", (((0, 1),), ((0, 1),))), ("then", 3, 4))
        self.assertEqual(ostinato_clash(end, 1, ((4, 6),), (0,), 0), half)
        self.assertIs(half % 6, 0)
        self.assertEqual(clean_shifts(end, 1, ((4, 6),), (0,)), ())
        self.assertEqual(clean_shifts(end, 1, ((None, 1), (4, 5)), (0,)), (0,))
        self.assertEqual(ostinato_clash(end + (("back", 5),), 1, ((4, 6),), (0,), 0), 0)

    def test_errors(self):
        for call, rest in ((clean_shifts, ()), (ostinato_clash, (None,))):
            self.refused(BadScore, None, call, None, None, None, None, *rest)
            self.refused(BadScore, 1, call, (A, None), None, None, None, *rest)
            self.refused(TooMany, 200, call, TOO_MANY, None, None, None, *rest)
            for odd in NO_INTEGERS + (-1, 1, 10 ** 900):
                self.refused(BadVoice, odd, call, SCORE, odd, None, None, *rest)
            for odd in ODD + (0, [(0, 1)], (0, 1), ((0, 1), None), ((0, 0),), ((0, 97),), ((61, 1),), ((-61, 1),), ((True, 1),), ((0, True),),
                              ((0, 1, 1),), ((0,),), ([0, 1],), ((0, None),), ((None, None),), ((0, 1),) * 13, (((0, 1),),), (("0", 1),)):
                self.refused(BadRow, odd, call, SCORE, 0, odd, None, *rest)
            for odd in ODD + (0, [0], (12,), (-1,), (1, 0), (0, 0), (True,), (0, None), (0, 10 ** 900), ((0,),)):
                if odd != ():
                    self.refused(BadGood, odd, call, SCORE, 0, ((0, 96),), odd, *rest)
        for odd in NO_INTEGERS + (-1, 4, 10 ** 900):
            self.refused(BadNumber, odd, ostinato_clash, SCORE, 0, ROW, GOOD, odd)
        ostinato_clash(SCORE, 0, ROW, GOOD, 3)


if __name__ == "__main__":
    unittest.main()

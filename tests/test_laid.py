"""A voice laid on a ring: [205], and tacthouse.laid."""

import unittest

from tacthouse.errors import BadNumber, BadScore, BadVoice, TooMany
from tacthouse.laid import laid, strikes_once
from tests import making, plain
from tests.refusing import NO_INTEGERS, Refusing
from tests.test_sounds import MANY

ONE = (("block", (((0, 1), (None, 2)),)), ("again", 0, 10 ** 12))


class Laid(Refusing, unittest.TestCase):
    def test_arguments(self):
        self.assertEqual(laid(score=ONE, voice=0, beats=3), (10 ** 12, 0, 0))
        self.assertIs(strikes_once(score=ONE[:1], voice=0, beats=1), True)

    def test_against_the_plain_reading(self):
        once = 0
        for start in range(150):
            numbers = making.Numbers(start + 31)
            voices = 1 + numbers.below(3)
            score = making.score(numbers, voices, 2 + numbers.below(11), 200)
            for voice in range(voices):
                begins = plain.begins(score, voice)
                for beats in (1, 2, 3, 4, 5, 7, 12, 48, 95, 96, 1 + len(begins) % 96):
                    told = tuple(sum(begin % beats == beat for begin in begins) for beat in range(beats))
                    self.assertEqual(self.same(laid, score, voice, beats), told)
                    self.assertIs(self.same(strikes_once, score, voice, beats), set(told) == {1})
                    once += set(told) == {1}
        self.assertGreater(once, 5)

    def test_again_and_again(self):
        """Each beat by whole rounds of the ring, and what is left of the last one."""
        self.assertEqual(laid(ONE, 0, 7)[:2], (142857142858, 142857142857))
        for length in (1, 2, 5, 8, 96, 97):
            for beats in (1, 3, 8, 12, 96):
                rest = ((None, length - 1),) if length > 1 else ()
                block = ("block", (((0, 1),) + rest,))
                for many in (10 ** 12, 10 ** 12 - 7, 12345):
                    whole, rest = divmod(many, beats)
                    starts = [length * at % beats for at in range(beats)]
                    told = tuple(starts.count(beat) * whole + starts[:rest].count(beat) for beat in range(beats))
                    self.assertEqual(laid((block, ("again", 0, many)), 0, beats), told, (length, beats, many))

    def test_very_long(self):
        score = (("block", (((1, 1), (None, 2), (2, 1), (2, 1)), ((None, 5),))),) + tuple(
            ("again", at, 10 ** 12 - at) for at in range(3)) + (("again", 3, 1999),)
        many = 1999
        for at in range(3):
            many *= 10 ** 12 - at
        for beats in (1, 5, 7, 64, 96):
            told = laid(score, 0, beats)
            starts = [(5 * at + begin) % beats for at in range(beats) for begin in (0, 3, 4)]
            whole, rest = divmod(many, beats)
            left = [(5 * at + begin) % beats for at in range(rest) for begin in (0, 3, 4)]
            self.assertEqual(told, tuple(starts.count(beat) * whole + left.count(beat) for beat in range(beats)))
            self.assertEqual(laid(score, 1, beats), (0,) * beats)
            back = laid(score + (("back", 4),), 0, beats)
            self.assertEqual(sum(back), 3 * many)
            self.assertEqual(back, laid((("block", (((2, 1), (2, 1), (None, 2), (1, 1)),)),)
                                        + tuple(("again", at, 10 ** 12 - at) for at in range(3)) + (("again", 3, 1999),), 0, beats))
        slow = laid(score[:4] + (("slow", 3, 3), ("turned", 4)), 0, 96)
        self.assertEqual(slow[::3], tuple(laid(score[:4], 0, 32)))
        self.assertEqual(set(slow[1::3] + slow[2::3]), {0})

    def test_strikes_once(self):
        block = ("block", (((0, 1), (None, 7)),))
        far = ("block", (((None, 4), (0, 1), (None, 4)),))
        self.assertIs(strikes_once((block, ("again", 0, 9)), 0, 9), True)
        self.assertIs(strikes_once((block, ("again", 0, 10)), 0, 9), False)
        self.assertIs(strikes_once((block, ("again", 0, 9)), 0, 8), False)
        self.assertIs(strikes_once((far, ("again", 0, 96)), 0, 96), False)
        self.assertIs(strikes_once((("block", (((None, 1),),)),), 0, 1), False)

    def test_errors(self):
        many = MANY + (("turned", 30), ("then", 30, 31))
        for call in (laid, strikes_once):
            for odd in NO_INTEGERS + (0, -1, 97, 10 ** 900):
                self.refused(BadNumber, odd, call, ONE, 0, odd)
                self.refused(BadVoice, 1, call, ONE, 1, odd)
                self.refused(BadVoice, None, call, ONE, None, odd)
                self.refused(TooMany, 200, call, many, 1, odd)
                self.refused(BadScore, 1, call, ONE[:1] + (None,), 1, odd)
                self.refused(BadScore, None, call, None, 1, odd)


if __name__ == "__main__":
    unittest.main()

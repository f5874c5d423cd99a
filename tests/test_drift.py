"""The drift of a voice by a table: [602], and tacthouse.drift."""

import unittest

from tacthouse.drift import drift_behind, drift_range, whole_drift
from tacthouse.errors import BadNumber, BadScale, BadScore, BadTable, BadVoice, TooMany
from tests import making, plain
from tests.refusing import NO_INTEGERS, ODD, Refusing
from tests.test_units import MANY_TIMES, SCORE, TOO_MANY, VERY, A

ONE = (1, 0, 0, 0)
# By this scale the table's first numbers are what is added: here the interval itself, times 2, and 1 if it is odd.
COUNTS = (1, 10 ** 3, 10 ** 6, 10 ** 9)


def table_of(numbers, widest=20):
    return tuple(tuple(numbers.below(2 * widest + 1) - widest for _ in range(4)) for _ in range(49))


def marks():
    """A TABLE by which, with COUNTS, each interval gives a number of its own."""
    return tuple((at % 7, at // 7, 0, 0) for at in range(49))


def mark(interval):
    """What this is, by the words of [602]."""
    if interval > 24:
        interval = interval % 24
    if interval < -24:
        interval = -((-interval) % 24)
    return (interval + 24) % 7 + 1000 * ((interval + 24) // 7)


def sums(score, voice, table, scale):
    """The sums behind all EVENTS with a PITCH, one by one."""
    pitches = [pitch for pitch, _ in plain.events(score, voice) if pitch is not None]
    found = [0] if pitches else []
    for one, other in zip(pitches, pitches[1:]):
        interval = other - one
        if abs(interval) > 24:
            interval = abs(interval) % 24 * (1 if interval > 0 else -1)
        found.append(found[-1] + sum(a * b for a, b in zip(table[interval + 24], scale)))
    return found


class Drifts(Refusing, unittest.TestCase):
    def test_arguments(self):
        score = (("block", (((0, 1), (None, 1), (7, 1), (5, 1)),)),)
        self.assertEqual(whole_drift(score=score, voice=0, table=marks(), scale=COUNTS), mark(7) + mark(-2))
        self.assertEqual(drift_range(score=score, voice=0, table=marks(), scale=COUNTS), ((0, 0), (mark(7) + mark(-2), 2)))
        self.assertEqual(drift_behind(score=score, voice=0, table=marks(), scale=COUNTS, number=1), mark(7))

    def test_against_a_plain_going(self):
        counts = {"none": 0, "least": 0, "most": 0, "both": 0}
        for start in range(400):
            numbers = making.Numbers(start + 31)
            voices = 1 + numbers.below(3)
            score = making.score(numbers, voices, 2 + numbers.below(12), 120)
            if start % 5 == 0:
                score += (("up", len(score) - 1, 24), ("ends", len(score) - 1, (len(score), 0, len(score))))
            voice, table = numbers.below(voices), table_of(numbers, numbers.one_of((1, 3, 20)))
            scale = (1 + numbers.below(9),) + tuple(numbers.below(19) - 9 for _ in range(3))
            told = sums(score, voice, table, scale)
            if not told:
                counts["none"] += 1
                self.assertIsNone(self.same(whole_drift, score, voice, table, scale))
                self.assertIsNone(self.same(drift_range, score, voice, table, scale))
                self.refused(BadNumber, 0, drift_behind, score, voice, table, scale, 0)
                continue
            self.assertEqual(self.same(whole_drift, score, voice, table, scale), told[-1])
            least, most = min(told), max(told)
            self.assertEqual(self.same(drift_range, score, voice, table, scale), ((least, told.index(least)), (most, told.index(most))), (score, voice, table, scale))
            for number in list(range(0, len(told), 3)) + [len(told) - 1]:
                self.assertEqual(self.same(drift_behind, score, voice, table, scale, number), told[number])
            self.refused(BadNumber, len(told), drift_behind, score, voice, table, scale, len(told))
            counts["least"] += told.index(least) > 0
            counts["most"] += told.index(most) > 0
            counts["both"] += 0 < told.index(most) < told.index(least)
        self.assertTrue(min(counts.values()) > 15, counts)

    def test_wide_intervals(self):
        """Beyond 24 and below -24."""
        self.assertEqual([mark(25), mark(-25), mark(-48), mark(48), mark(49)], [mark(1), mark(-1), mark(0), mark(0), mark(1)])
        for one in range(-60, 61):
            for other in (-60, -36, -25, -24, -1, 0, 1, 24, 25, 36, 60):
                score = (("block", (((one, 1), (other, 1)),)),)
                self.assertEqual(whole_drift(score, 0, marks(), COUNTS), mark(other - one))

    def test_rests_are_left_aside(self):
        score = (("block", (((None, 2), (0, 1), (None, 96), (None, 1), (4, 1), (None, 2)),)), ("again", 0, 3))
        self.assertEqual(whole_drift(score, 0, marks(), COUNTS), 3 * mark(4) + 2 * mark(-4))
        self.assertEqual(drift_range(score, 0, marks(), COUNTS)[0], (0, 0))
        silent = (("block", (((None, 2),), ((1, 2),))), ("again", 0, 10 ** 12))
        self.assertIsNone(whole_drift(silent, 0, marks(), COUNTS))
        self.assertIsNone(drift_range(silent, 0, marks(), COUNTS))
        self.assertEqual(whole_drift(silent, 1, marks(), COUNTS), (10 ** 12 - 1) * mark(0))

    def test_the_first_numbers(self):
        """Of several sums that are least, or greatest, the first one is told."""
        flat = ((0, 0, 0, 0),) * 49
        score = (("block", (((0, 1), (2, 1), (0, 1)),)), ("again", 0, 10 ** 12))
        self.assertEqual(drift_range(score, 0, flat, ONE), ((0, 0), (0, 0)))
        there_and_back = flat[:22] + ((-1, 0, 0, 0),) + flat[23:26] + ((1, 0, 0, 0),) + flat[27:]
        self.assertEqual(drift_range(score, 0, there_and_back, ONE), ((0, 0), (1, 1)))
        self.assertEqual(drift_range(score + (("turned", 1),), 0, there_and_back, ONE), ((-1, 1), (0, 0)))
        falling = flat[:22] + ((-2, 0, 0, 0),) + flat[23:26] + ((1, 0, 0, 0),) + flat[27:]
        self.assertEqual(drift_range(score, 0, falling, ONE), ((-10 ** 12, 3 * 10 ** 12 - 1), (1, 1)))
        rising = flat[:22] + ((-1, 0, 0, 0),) + flat[23:26] + ((2, 0, 0, 0),) + flat[27:]
        self.assertEqual(drift_range(score, 0, rising, ONE), ((0, 0), (10 ** 12 + 1, 3 * 10 ** 12 - 2)))

    def test_very_long(self):
        # 3, 3 again and again in the voice 0: 2 * MANY_TIMES notes.
        count = 2 * MANY_TIMES
        self.assertEqual(whole_drift(VERY, 0, marks(), COUNTS), (count - 1) * mark(0))
        self.assertEqual(drift_range(VERY, 0, marks(), COUNTS), ((0, 0), ((count - 1) * mark(0), count - 1)))
        self.assertEqual(drift_behind(VERY, 0, marks(), COUNTS, 10 ** 35 + 7), (10 ** 35 + 7) * mark(0))
        self.assertEqual(drift_behind(VERY, 1, marks(), COUNTS, MANY_TIMES - 1), (MANY_TIMES - 1) * mark(0))
        self.refused(BadNumber, count, drift_behind, VERY, 0, marks(), COUNTS, count)
        walk = (("block", (((0, 1), (5, 2), (None, 1), (-20, 1), (10, 1)),)),) + tuple(("again", at, 10 ** 12) for at in range(3)) + (
            ("up", 3, 2), ("then", 3, 4), ("back", 5), ("turned", 6))
        times = 10 ** 36
        once, turn = mark(5) + mark(-25) + mark(30), mark(-10)
        part = times * once + (times - 1) * turn
        self.assertEqual(drift_behind(walk[:4], 0, marks(), COUNTS, 4 * times - 1), part)
        self.assertEqual(drift_behind(walk[:6], 0, marks(), COUNTS, 4 * times), part + mark(-8))
        self.assertEqual(whole_drift(walk[:6], 0, marks(), COUNTS), 2 * part + mark(-8))
        self.assertEqual(whole_drift(walk[:7], 0, marks(), COUNTS), 2 * (times * (mark(-5) + mark(25) + mark(-30)) + (times - 1) * mark(10)) + mark(8))
        self.assertEqual(whole_drift(walk, 0, marks(), COUNTS), 2 * (times * (mark(5) + mark(-25) + mark(30)) + (times - 1) * mark(-10)) + mark(-8))
        for number in (0, 1, 4 * times - 1, 4 * times, 4 * times + 10 ** 30 + 2, 8 * times - 1):
            copies, rest = divmod(number, 4)
            told = copies * (once + turn) + (0, mark(5), mark(5) + mark(-25), once)[rest] + (mark(-8) - turn if number >= 4 * times else 0)
            self.assertEqual(drift_behind(walk[:6], 0, marks(), COUNTS, number), told)

    def test_errors(self):
        good = marks()
        for call, rest in ((whole_drift, ()), (drift_range, ()), (drift_behind, (None,))):
            self.refused(BadScore, None, call, None, None, None, None, *rest)
            self.refused(BadScore, 1, call, (A, None), None, None, None, *rest)
            self.refused(TooMany, 200, call, TOO_MANY, None, None, None, *rest)
            for odd in NO_INTEGERS + (-1, 1, 10 ** 900):
                self.refused(BadVoice, odd, call, SCORE, odd, None, None, *rest)
            for odd in ODD + (0, list(good), good[:48], good + good[:1], good[:48] + (None,), good[:48] + ((0, 0, 0),), good[:48] + ([0, 0, 0, 0],),
                              good[:48] + ((0, 0, 0, 21),), good[:48] + ((0, 0, -21, 0),), ((True, 0, 0, 0),) + good[1:], ((0, None, 0, 0),) + good[1:]):
                self.refused(BadTable, odd, call, SCORE, 0, odd, None, *rest)
            for odd in ODD + (0, [1, 0, 0, 0], (0, 0, 0, 0), (-1, 0, 0, 0), (1, 0, 0), (1, 0, 0, 10 ** 9 + 1), (True, 0, 0, 0), (1, 0, 0, None)):
                self.refused(BadScale, odd, call, SCORE, 0, good, odd, *rest)
        for odd in NO_INTEGERS + (-1, 4, 10 ** 900):
            self.refused(BadNumber, odd, drift_behind, SCORE, 0, good, ONE, odd)
        self.assertEqual(drift_behind(SCORE, 0, good, COUNTS, 3), 3 * mark(0))


if __name__ == "__main__":
    unittest.main()

"""Scores by a tempo, gaps, and paces: [310] to [312], and tacthouse.timed."""

import unittest
from fractions import Fraction

from tacthouse.errors import (BadFraction, BadNumber, BadPaces, BadScore, BadTempo, BadVoice, OutOfScore, TooMany)
from tacthouse.sounds import begin_of, note_count
from tacthouse.timed import begin_at, heard_at, nearest_gap, paced_begin, paced_length, widest_gap
from tests import making, plain
from tests.refusing import NO_INTEGERS, Refusing
from tests.test_sounds import MANY
from tests.test_tempos import NO_FRACTIONS, STEADY, bends, pair, tempo_of, worth

A = ("block", (((0, 2), (None, 1)),))
SCORE = (A, ("again", 0, 2))


def gaps(score, voice, tempo):
    """All GAPS, from begin to begin."""
    seconds = [worth(tempo, Fraction(begin)) for begin in plain.begins(score, voice)]
    return [later - second for second, later in zip(seconds, seconds[1:])]


def paced(score, voice, number, paces):
    """(how long a SIGN lasts, (begin, end, PITCH) of each EVENT in it) by PACES, by the words of [312]."""
    sign = score[number]
    word = sign[0]
    pace = Fraction(*paces[number])
    if word == "block":
        inner, begin = [], Fraction(0)
        for pitch, long in sign[1][voice]:
            inner.append((begin, begin + long, pitch))
            begin += long
        span = begin
    else:
        parts = {"then": lambda: [sign[1], sign[2]], "again": lambda: [sign[1]] * sign[2],
                 "ends": lambda: [part for end in sign[2] for part in (sign[1], end)]}.get(word, lambda: [sign[1]])()
        inner, span = [], Fraction(0)
        for part in parts:
            long, events = paced(score, voice, part, paces)
            inner += [(begin + span, end + span, pitch) for begin, end, pitch in events]
            span += long
        if word == "back":
            inner = [(span - end, span - begin, pitch) for begin, end, pitch in inner][::-1]
        if word == "slow":
            pace *= sign[2]
    return span * pace, [(begin * pace, end * pace, pitch) for begin, end, pitch in inner]


class Timed(Refusing, unittest.TestCase):
    def test_arguments(self):
        self.assertEqual(begin_at(score=SCORE, voice=0, number=1, tempo=STEADY), (3, 1))
        self.assertEqual(heard_at(score=SCORE, second=(1, 2), tempo=STEADY), ((0, (1, 2), (3, 2)),))
        self.assertEqual(nearest_gap(score=SCORE, voice=0, tempo=STEADY), ((3, 1), 0))
        self.assertEqual(widest_gap(score=SCORE, voice=0, tempo=STEADY), ((3, 1), 0))
        self.assertEqual(paced_length(score=SCORE, paces=((1, 2), (2, 1))), (6, 1))
        self.assertEqual(paced_begin(score=SCORE, voice=0, number=1, paces=((1, 2), (2, 1))), (3, 1))

    def test_against_the_plain_reading(self):
        for start in range(120):
            numbers = making.Numbers(start + 900)
            voices = 1 + numbers.below(2)
            score = making.score(numbers, voices, 2 + numbers.below(10), 60)
            tempo = tempo_of(numbers, 1 + numbers.below(6), 15)
            for voice in range(voices):
                begins = plain.begins(score, voice)
                for number, begin in enumerate(begins):
                    self.assertEqual(self.same(begin_at, score, voice, number, tempo), pair(worth(tempo, Fraction(begin))))
                self.gaps(score, voice, tempo)
            self.heard(score, tempo)

    def gaps(self, score, voice, tempo):
        all_gaps = gaps(score, voice, tempo)
        near, wide = self.same(nearest_gap, score, voice, tempo), self.same(widest_gap, score, voice, tempo)
        if not all_gaps:
            self.assertEqual((near, wide), (None, None))
        else:
            self.assertEqual(near, (pair(min(all_gaps)), all_gaps.index(min(all_gaps))), (score, voice, tempo))
            self.assertEqual(wide, (pair(max(all_gaps)), all_gaps.index(max(all_gaps))), (score, voice, tempo))

    def heard(self, score, tempo):
        length = plain.length(score)
        seconds = [worth(tempo, Fraction(tick)) for tick in range(length + 1)]
        some = seconds + [(one + other) / 2 for one, other in zip(seconds, seconds[1:])]
        some += [bend for bend in (worth(tempo, one) for one in bends(tempo))]
        for second in some:
            if second >= seconds[-1]:
                self.refused(OutOfScore, pair(second), heard_at, score, pair(second), tempo)
                continue
            tick = max(at for at in range(length) if seconds[at] <= second)
            told = []
            for voice in range(plain.voices(score)):
                pitch, ago, still = plain.heard(score, voice, tick)
                told.append((pitch, pair(second - seconds[tick - ago]), pair(seconds[tick + still] - second)))
            self.assertEqual(heard_at(score, pair(second), tempo), tuple(told))

    def test_gaps_at_bends(self):
        """Gaps that go over bends, also over several ones, and bends that fall on begins."""
        score = (("block", (((0, 1), (0, 3), (None, 2), (5, 2), (5, 2)),)), ("again", 0, 3))
        for tempo in ((((1, 1), (1, 1)), ((3, 1), (2, 1)), (None, (1, 2))),
                      (((3, 2), (1, 1)), ((1, 4), (9, 1)), ((1, 4), (1, 9)), (None, (1, 1))),
                      (((10, 1), (3, 1)), ((10, 1), (1, 1)), (None, (2, 1))),
                      (((30, 1), (1, 1)), (None, (2, 1))), (((29, 1), (1, 1)), ((100, 1), (50, 1)), (None, (2, 1))),
                      (((1, 1000), (10 ** 9, 1)), (None, (1, 1))), (((1, 1), (1, 7)), ((1, 1), (7, 1)), (None, (1, 7))),
                      tuple(((1, 1), pair(Fraction(1 + at % 3, 1 + at % 5))) for at in range(39)) + ((None, (1, 1)),)):
            self.gaps(score, 0, tempo)
        self.assertEqual(nearest_gap((A,), 0, STEADY), None)
        self.assertEqual(widest_gap((("block", (((None, 1),),)), ("again", 0, 10 ** 12)), 0, STEADY), None)
        # Of gaps that are the same the first one is told, on whichever side of a bend.
        even = (("block", (((0, 2),),)), ("again", 0, 10))
        self.assertEqual(nearest_gap(even, 0, (((7, 1), (1, 1)), ((2, 1), (5, 1)), (None, (1, 1)))), ((2, 1), 0))
        self.assertEqual(widest_gap(even, 0, (((7, 1), (5, 1)), ((2, 1), (1, 1)), (None, (5, 1)))), ((10, 1), 0))
        self.assertEqual(nearest_gap(even, 0, (((8, 1), (2, 1)), ((4, 1), (1, 1)), ((2, 1), (2, 1)), (None, (1, 1)))),
                         ((2, 1), 4))

    def test_gaps_within_a_few_rounds(self):
        """A pair of the tempo has the end of one round and the beginning of another, not what is between in each."""
        block = ("block", (((0, 1), (1, 2), (2, 9), (3, 4), (4, 3)),))
        for many in range(2, 8):
            score = (block, ("again", 0, 9), ("then", 1, 0))
            for first in range(0, 40, 3):
                for last in (19 * many - 12, 19 * many + 3, 19 * many - 3, 19 * many + 14):
                    if first < last:
                        start = (((first, 1), (1, 1)),) if first else ()
                        self.gaps(score, 0, start + (((last - first, 1), (1000, 1)), (None, (1, 1))))
                        self.gaps(score, 0, start + (((last - first, 1), (1, 1000)), (None, (1, 1))))

    def rounds(self, many):
        """The same melody again and again, with one wide gap at each end of a round."""
        return (("block", (((0, 2), (None, 1), (4, 1), (7, 5)), ((None, 9),))), ("again", 0, many))

    def test_a_thousand_million_rounds(self):
        many = 10 ** 9
        score = self.rounds(many)
        self.assertEqual(nearest_gap(score, 0, STEADY), ((1, 1), 1))
        self.assertEqual(widest_gap(score, 0, STEADY), ((5, 1), 2))
        self.assertEqual((nearest_gap(score, 1, STEADY), widest_gap(score, 1, STEADY)), (None, None))
        half = 9 * many // 2
        faster = (((half, 1), (1, 1)), (None, (1, 3)))
        self.assertEqual(nearest_gap(score, 0, faster), ((1, 3), 3 * many // 2 + 1))
        self.assertEqual(widest_gap(score, 0, faster), ((5, 1), 2))
        self.assertEqual(begin_at(score, 0, 3 * many - 1, faster), pair(worth(faster, Fraction(9 * many - 5))))
        late = (((9 * many - 4, 1), (1, 1)), (None, (9, 1)))
        self.assertEqual(widest_gap(score, 0, late), ((5, 1), 2))
        # A stretch at the very end in which a gap begins, and one that ends within it.
        late = (((9 * many - 6, 1), (1, 1)), (None, (9, 1)))
        self.assertEqual(widest_gap(score, 0, late), ((9, 1), 3 * many - 2))
        late = (((9 * many - 4, 1), (1, 1)), ((1, 2), (100, 1)), (None, (1, 1)))
        self.assertEqual(widest_gap(self.rounds(many + 1), 0, late), (pair(Fraction(5) - Fraction(1, 2) + 50), 3 * many - 1))
        told = heard_at(score, (9 * many - 1, 1), STEADY)
        self.assertEqual(told, ((7, (4, 1), (1, 1)), (None, (9 * many - 1, 1), (1, 1))))
        self.refused(OutOfScore, (9 * many, 1), heard_at, score, (9 * many, 1), STEADY)
        self.refused(OutOfScore, (10 ** 59, 1), heard_at, score, (10 ** 59, 1), STEADY)

    def test_very_long(self):
        score = self.rounds(10 ** 12) + (("again", 1, 10 ** 12), ("up", 2, 3), ("back", 3), ("then", 4, 2), ("again", 5, 10 ** 12))
        total = note_count(score, 0)
        tempo = (((10 ** 25, 3), (1, 7)), ((10 ** 30, 7), (3, 1)), (None, (2, 5)))
        near, wide = nearest_gap(score, 0, tempo), widest_gap(score, 0, tempo)
        for gap, number in (near, wide):
            one, other = [worth(tempo, Fraction(begin_of(score, 0, number + at))) for at in (0, 1)]
            self.assertEqual(gap, pair(other - one))
            self.assertLess(number, total)
        # Backwards begins are 5, 2 and 2 ticks apart; the first tempo ends within that.
        self.assertEqual((near, wide[0]), (((2, 7), 1), (15, 1)))
        number = total - 1
        self.assertEqual(begin_at(score, 0, number, tempo), pair(worth(tempo, Fraction(begin_of(score, 0, number)))))
        second = pair(worth(tempo, Fraction(begin_of(score, 0, number)) + Fraction(1, 3)))
        self.assertEqual(heard_at(score, second, tempo)[0][:2], (7, (2, 15)))

    def test_paces(self):
        for start in range(150):
            numbers = making.Numbers(start + 4000)
            voices = 1 + numbers.below(2)
            score = making.score(numbers, voices, 2 + numbers.below(9), 60)
            paces = tuple(pair(Fraction(1 + numbers.below(5), 1 + numbers.below(4))) for _ in score)
            for voice in range(voices):
                span, events = paced(score, voice, len(score) - 1, paces)
                self.assertEqual(self.same(paced_length, score, paces), pair(span))
                begins = [begin for begin, _, pitch in events if pitch is not None]
                self.assertEqual([self.same(paced_begin, score, voice, at, paces) for at in range(len(begins))],
                                 [pair(begin) for begin in begins])
                steady = ((1, 1),) * len(score)
                self.assertEqual([paced_begin(score, voice, at, steady) for at in range(len(begins))],
                                 [(begin, 1) for begin in plain.begins(score, voice)])

    def test_paces_of_long_scores(self):
        score = self.rounds(10 ** 12) + (("back", 1), ("slow", 2, 3), ("ends", 3, (1, 1)), ("again", 4, 10 ** 12))
        paces = ((1, 2), (10 ** 59 + 1, 10 ** 59), (3, 1), (1, 1), (5, 7), (2, 1))
        one = Fraction(9, 2) * 10 ** 12 * Fraction(10 ** 59 + 1, 10 ** 59)
        part = (one * 9 * 2 + one * 2) * Fraction(5, 7)
        self.assertEqual(paced_length(score, paces), pair(part * 10 ** 12 * 2))
        # Of the first round back the 7 begins first, as far from the beginning as it ended from the end.
        self.assertEqual(paced_begin(score, 0, 0, paces), (0, 1))
        per_part = 4 * 3 * 10 ** 12
        self.assertEqual(paced_begin(score, 0, per_part * (10 ** 12 - 1), paces), pair(part * (10 ** 12 - 1) * 2))
        second = Fraction(5, 2) * Fraction(*paces[1]) * 3 * 3 * Fraction(5, 7) * 2
        self.assertEqual(paced_begin(score, 0, 1, paces), pair(second))

    def test_errors_of_scores_and_voices(self):
        many = MANY + (("turned", 30), ("then", 30, 31))
        calls = ((begin_at, (0,), 2), (heard_at, (), 2), (nearest_gap, (0,), 1), (widest_gap, (0,), 1), (paced_length, (), 1),
                 (paced_begin, (0,), 2))
        for call, voice, more in calls:
            rest = (None,) * more
            self.refused(BadScore, None, call, None, *voice, *rest)
            self.refused(BadScore, 1, call, (A, None), *voice, *rest)
            self.refused(TooMany, 200, call, many, *voice, *rest)
            for odd in NO_INTEGERS + (-1, 1) if voice else ():
                self.refused(BadVoice, odd, call, SCORE, odd, *rest)

    def test_errors(self):
        for odd in NO_INTEGERS + (-1, 2, 10 ** 900):
            self.refused(BadNumber, odd, begin_at, SCORE, 0, odd, None)
            self.refused(BadNumber, odd, paced_begin, SCORE, 0, odd, None)
        for place, odd in (("form", None), ("form", ()), ("form", [1]), (0, (None,)), (0, ((None, (0, 1)),)), (1, STEADY[:0] + (((1, 1), (1, 1)),) * 2)):
            self.refused(BadTempo, place, begin_at, SCORE, 0, 1, odd)
            self.refused(BadTempo, place, nearest_gap, SCORE, 0, odd)
            self.refused(BadTempo, place, widest_gap, SCORE, 0, odd)
            self.refused(BadTempo, place, heard_at, SCORE, (10 ** 9, 1), odd)
        for odd in NO_FRACTIONS + ((-1, 1), (-1, 2)):
            self.refused(BadFraction, odd, heard_at, SCORE, odd, None)
        self.refused(OutOfScore, (6, 1), heard_at, SCORE, (6, 1), STEADY)
        self.assertEqual(heard_at(SCORE, (0, 1), STEADY), ((0, (0, 1), (2, 1)),))
        self.refused(OutOfScore, (3, 1), heard_at, SCORE, (3, 1), ((None, (1, 2)),))
        self.assertEqual(heard_at(SCORE, (10 ** 9 * 3 - 1, 10 ** 9), ((None, (1, 2)),))[0][0], None)

    def test_bad_paces(self):
        fine = ((1, 1), (2, 3))
        bad = [None, (), [], fine[:1], fine + fine[:1], list(fine), 3, "ab", (None, None)]
        bad += [(odd, (1, 1)) for odd in NO_FRACTIONS + ((0, 1), (-1, 1))]
        bad += [((1, 1), odd) for odd in NO_FRACTIONS + ((0, 1), (-1, 2))]
        for odd in bad:
            self.refused(BadPaces, odd, paced_length, SCORE, odd)
            self.refused(BadPaces, odd, paced_begin, SCORE, 0, 1, odd)


if __name__ == "__main__":
    unittest.main()

"""Two players of one score: [330] to [333], and tacthouse.marks."""

import unittest
from fractions import Fraction

from tacthouse.errors import (BadClocks, BadFraction, BadMarks, BadNumber, BadScore, BadTempo, BadVoices, TooMany)
from tacthouse.marks import (begin_bar, begin_marks, clock_drift, first_apart, latest_mark, least_marks)
from tests import making, plain
from tests.refusing import ODD, Refusing
from tests.test_sounds import MANY
from tests.test_tempos import NO_FRACTIONS, STEADY, pair, tempo_of, worth

ONE = (1, 1)
SAME = ((ONE, ONE), (ONE, ONE))
CLOCKS = (((99, 100), ONE), (ONE, (51, 50)))
A = ("block", (((0, 2), (None, 1)),))
SCORE = (A, ("again", 0, 4))
TOO_MANY = MANY + (("turned", 30), ("then", 30, 31))
HUGE = (("block", (((None, 2), (3, 1), (3, 2), (None, 1)), ((None, 6),))), ("again", 0, 10 ** 12), ("again", 1, 10 ** 12),
        ("again", 2, 10 ** 12), ("again", 3, 1666))
LENGTH = 6 * 1666 * 10 ** 36


def clocks_of(numbers):
    """CLOCKS with few unlike bounds."""
    made = []
    for _ in range(2):
        low = Fraction(8 + numbers.below(3), 10)
        made.append((pair(low), pair(low + Fraction(numbers.below(3), 10))))
    return tuple(made)


def drift(clocks):
    (low, high), (other_low, other_high) = [[Fraction(*bound) for bound in clock] for clock in clocks]
    return max(high - other_low, other_high - low)


def apart_from(score, tempo, clocks, tol, mark):
    """The first tick at which the two are not within TOL of a MARK, tick by tick, or None."""
    for tick in range(mark, plain.length(score) + 1):
        seconds = worth(tempo, Fraction(tick)) - worth(tempo, Fraction(mark))
        if drift(clocks) * seconds > Fraction(*tol):
            return tick
    return None


def latest(score, tempo, clocks, tol):
    found, mark = [], 0
    while True:
        mark = apart_from(score, tempo, clocks, tol, mark)
        if mark is None:
            return found
        found.append(mark)


def fewest(ticks, length, is_within):
    """As few MARKS out of some ticks as can be, besides 0, by trying all: None if they do not do."""
    fewest_behind = {}
    for mark in sorted(set(ticks) | {0}, reverse=True):
        if all(is_within(mark, tick) for tick in range(mark, length + 1)):
            fewest_behind[mark] = 0
            continue
        counts = [fewest_behind[later] + 1 for later in ticks if later > mark and fewest_behind[later] is not None
                  and all(is_within(mark, tick) for tick in range(mark, later))]
        fewest_behind[mark] = min(counts, default=None)
    return fewest_behind[0]


def begins_of(score, voices):
    return sorted({begin for voice in voices for begin in plain.begins(score, voice)})


def bar_of(score, voices, span):
    """The BAR, by the words of [333]."""
    begins, length = begins_of(score, voices), plain.length(score)
    ticks = sorted(set(begins) | {0})
    for one, later in zip(ticks, ticks[1:]):
        if later - one > span + 1:
            return (one, later)
    return (ticks[-1], length) if length - ticks[-1] > span else None


class Marks(Refusing, unittest.TestCase):
    def test_arguments(self):
        self.assertEqual(clock_drift(clocks=CLOCKS), (3, 100))
        self.assertEqual(first_apart(score=SCORE, tempo=STEADY, clocks=CLOCKS, tol=(1, 10), marks=(0, 3)), 7)
        self.assertEqual(least_marks(score=SCORE, tempo=STEADY, clocks=CLOCKS, tol=(1, 10)), 3)
        self.assertEqual(latest_mark(score=SCORE, tempo=STEADY, clocks=CLOCKS, tol=(1, 10), number=1), 8)
        self.assertEqual(begin_marks(score=SCORE, voices=(0,), rate=ONE, clocks=CLOCKS, tol=(1, 10)), 3)
        self.assertEqual(begin_bar(score=SCORE, voices=(0,), rate=ONE, clocks=CLOCKS, tol=(1, 100)), (0, 3))

    def test_drift(self):
        for start in range(200):
            numbers = making.Numbers(start)
            clocks = clocks_of(numbers)
            self.assertEqual(self.same(clock_drift, clocks), pair(drift(clocks)))
            bounds = {bound for clock in clocks for bound in clock}
            self.assertEqual(clock_drift(clocks) == (0, 1), len(bounds) == 1)
        self.assertEqual(clock_drift(SAME), (0, 1))
        self.assertEqual(clock_drift((((1, 2), (2, 3)), ((3, 4), (5, 1)))), (9, 2))
        self.assertEqual(clock_drift((((3, 4), (5, 1)), ((1, 2), (2, 3)))), (9, 2))

    def test_against_a_plain_going(self):
        counts = set()
        for start in range(140):
            numbers = making.Numbers(start + 40)
            score = making.score(numbers, 1, 2 + numbers.below(6), 40)
            tempo = tempo_of(numbers, 1 + numbers.below(5), 9)
            clocks, tol = clocks_of(numbers), pair(Fraction(1 + numbers.below(9), 1 + numbers.below(6)))
            found, length = latest(score, tempo, clocks, tol), plain.length(score)
            self.assertEqual(self.same(least_marks, score, tempo, clocks, tol), len(found), (score, tempo, clocks, tol))
            self.assertEqual([latest_mark(score, tempo, clocks, tol, at) for at in range(len(found))], found)
            for odd in (-1, len(found), None, True):
                self.refused(BadNumber, odd, latest_mark, score, tempo, clocks, tol, odd)
            counts.add(min(len(found), 3))
            if length < 25:
                def is_within(mark, tick):
                    return drift(clocks) * (worth(tempo, Fraction(tick)) - worth(tempo, Fraction(mark))) <= Fraction(*tol)
                self.assertEqual(fewest(range(1, length + 1), length, is_within), len(found))
            self.some_marks(numbers, score, tempo, clocks, tol, length)
        self.assertEqual(counts, {0, 1, 2, 3})

    def some_marks(self, numbers, score, tempo, clocks, tol, length):
        for _ in range(4):
            marks = tuple(sorted({0} | {numbers.below(length + 1) for _ in range(numbers.below(6))}))
            told = None
            for tick in range(length + 1):
                mark = max(mark for mark in marks if mark <= tick)
                if drift(clocks) * (worth(tempo, Fraction(tick)) - worth(tempo, Fraction(mark))) > Fraction(*tol):
                    told = tick
                    break
            self.assertEqual(self.same(first_apart, score, tempo, clocks, tol, marks), told)

    def test_no_drift(self):
        """Clocks that are all the same are never apart."""
        for score in (SCORE, HUGE):
            self.assertIsNone(first_apart(score, STEADY, SAME, (1, 10 ** 50), (0,)))
            self.assertEqual(least_marks(score, STEADY, SAME, (1, 10 ** 50)), 0)
            self.refused(BadNumber, 0, latest_mark, score, STEADY, SAME, ONE, 0)
            self.assertEqual(begin_marks(score, (0,), ONE, SAME, (10 ** 50, 1)), 0)
            self.assertIsNone(begin_bar(score, (0,), ONE, SAME, (10 ** 50, 1)))
        self.assertEqual(begin_marks(HUGE, (1,), ONE, SAME, ONE), 0)

    def test_just_within(self):
        """A drift that is just TOL is within."""
        clocks = ((ONE, ONE), (ONE, (2, 1)))
        self.assertEqual(least_marks(SCORE, STEADY, clocks, (12, 1)), 0)
        self.assertEqual(least_marks(SCORE, STEADY, clocks, (11, 1)), 1)
        self.assertEqual(latest_mark(SCORE, STEADY, clocks, (11, 1), 0), 12)
        self.assertEqual(first_apart(SCORE, STEADY, clocks, (11, 1), (0,)), 12)
        self.assertIsNone(first_apart(SCORE, STEADY, clocks, (11, 1), (0, 12)))
        self.assertEqual(least_marks(SCORE, STEADY, clocks, (1, 2)), 12)

    def test_very_long(self):
        rounds = (A, ("again", 0, 10 ** 9))
        clocks = ((ONE, ONE), (ONE, (1001, 1000)))
        self.assertEqual(least_marks(rounds, STEADY, clocks, ONE), 3 * 10 ** 9 // 1001)
        self.assertEqual(latest_mark(rounds, STEADY, clocks, ONE, 10 ** 6), 1001 * (10 ** 6 + 1))
        self.assertEqual(first_apart(rounds, STEADY, clocks, ONE, (0, 1001, 2002, 3 * 10 ** 9)), 3003)
        tempo = (((10 ** 39, 7), (1, 3)), ((1, 3), (7, 1)), ((5, 2), (900, 1)), ((10 ** 38, 1), (2, 5)), ((9, 1), (1, 1)), (None, (3, 1)))
        for tol in ((1, 10 ** 3), (12345, 1), (10 ** 30, 17), (10 ** 38, 1)):
            count = least_marks(HUGE, tempo, CLOCKS, tol)
            self.goes_on(tempo, CLOCKS, tol, count)
        self.assertEqual(least_marks(HUGE, tempo, CLOCKS, (10 ** 41, 1)), 0)

    def goes_on(self, tempo, clocks, tol, count):
        """Each of the LATEST MARKS is the first tick at which the two are not within TOL of the one ahead."""
        numbers = making.Numbers(count % 10 ** 9)
        places = {0, 1, count - 2} | {count * numbers.below(10 ** 6) // 10 ** 6 for _ in range(20)}
        bends = [Fraction(10 ** 39, 7), Fraction(10 ** 39, 7) + 3, Fraction(10 ** 39, 7) + 10 ** 38]
        for bend in bends:
            low, high = 0, count - 1
            while low < high:
                middle = (low + high + 1) // 2
                low, high = (middle, high) if latest_mark(HUGE, tempo, clocks, tol, middle) <= bend else (low, middle - 1)
            places |= {low - 1, low, low + 1}
        reach = Fraction(*tol) / drift(clocks)
        for place in sorted(places):
            if 0 <= place < count - 1:
                one, later = [latest_mark(HUGE, tempo, clocks, tol, at) for at in (place, place + 1)]
                second = worth(tempo, Fraction(one))
                self.assertLessEqual(worth(tempo, Fraction(later - 1)) - second, reach)
                self.assertGreater(worth(tempo, Fraction(later)) - second, reach)
        last = latest_mark(HUGE, tempo, clocks, tol, count - 1)
        self.assertLessEqual(last, LENGTH)
        self.assertLessEqual(worth(tempo, Fraction(LENGTH)) - worth(tempo, Fraction(last)), reach)
        self.refused(BadNumber, count, latest_mark, HUGE, tempo, clocks, tol, count)

    def test_begins_against_a_plain_going(self):
        kinds = {"bar": 0, "end": 0, "none": 0, "some": 0}
        for start in range(260):
            numbers = making.Numbers(start + 500)
            voices = 1 + numbers.below(3)
            score = making.score(numbers, voices, 2 + numbers.below(8), 60)
            lot = tuple(sorted({numbers.below(voices) for _ in range(1 + numbers.below(voices))}))
            rate, clocks = pair(Fraction(1 + numbers.below(3), 1 + numbers.below(3))), clocks_of(numbers)
            tol = pair(Fraction(1 + numbers.below(12), 1 + numbers.below(5)))
            if drift(clocks) == 0:
                self.assertEqual((begin_marks(score, lot, rate, clocks, tol), begin_bar(score, lot, rate, clocks, tol)), (0, None))
                continue
            span = int(Fraction(*tol) / drift(clocks) / Fraction(*rate))
            bar, length = bar_of(score, lot, span), plain.length(score)
            told = self.same(begin_marks, score, lot, rate, clocks, tol)
            self.assertEqual(self.same(begin_bar, score, lot, rate, clocks, tol), bar)
            ticks = [begin for begin in begins_of(score, lot) if begin]
            count = fewest(ticks, length, lambda mark, tick, span=span: tick - mark <= span)
            self.assertEqual(told, count, (score, lot, span))
            self.assertEqual(count is None, bar is not None)
            kind = ("some" if count else "none") if bar is None else "end" if bar[1] == length else "bar"
            kinds[kind] += 1
        self.assertTrue(all(kinds.values()), kinds)

    def test_begins_again_and_again(self):
        """Against the rounds behind which all comes again."""
        clocks = ((ONE, ONE), (ONE, (2, 1)))
        rows = (((0, 1), (None, 3), (5, 2)), ((0, 1),), ((None, 2), (0, 1), (1, 1), (None, 1), (7, 2)), ((None, 1), (0, 4), (0, 1)))
        for row in rows:
            for span in (5, 6, 7, 9, 13, 30):
                if bar_of((("block", (row,)), ("again", 0, 3)), (0,), span) is not None:
                    continue
                counts = [0]
                for many in range(1, 140):
                    counts.append(begin_marks((("block", (row,)), ("again", 0, many)), (0,), ONE, clocks, (span, 1)))
                    if many < 12:
                        score = (("block", (row,)), ("again", 0, many))
                        ticks = [begin for begin in begins_of(score, (0,)) if begin]
                        self.assertEqual(counts[-1], fewest(ticks, plain.length(score), lambda mark, tick: tick - mark <= span))
                lap = [lap for lap in range(1, 60) if all(
                    counts[at + lap] - counts[at] == counts[at + 2 * lap] - counts[at + lap] for at in range(20, 139 - 2 * lap))][0]
                for many in (10 ** 9, 10 ** 12 - 5, 10 ** 12):
                    rounds, rest = divmod(many - 20, lap)
                    told = counts[20 + rest] + rounds * (counts[20 + lap] - counts[20])
                    self.assertEqual(begin_marks((("block", (row,)), ("again", 0, many)), (0,), ONE, clocks, (span, 1)), told)

    def test_begins_of_very_long_scores(self):
        clocks = ((ONE, ONE), (ONE, (2, 1)))
        # From 0 to 3, and then from round to round: six ticks, of which 2 and 3 are begins.
        self.assertEqual(begin_marks(HUGE, (0,), ONE, clocks, (5, 1)), LENGTH // 6)
        self.assertEqual(begin_marks(HUGE, (0, 1), ONE, clocks, (4, 1)), 2 * LENGTH // 6 - 2)
        self.assertEqual(begin_bar(HUGE, (0,), ONE, clocks, (3, 1)), (3, 8))
        self.assertEqual(begin_bar(HUGE, (1,), ONE, clocks, (400, 1)), (0, LENGTH))
        self.assertIsNone(begin_marks(HUGE, (1,), ONE, clocks, (400, 1)))
        self.assertIsNone(begin_marks(HUGE, (0,), ONE, clocks, (3, 1)))
        dense = (("block", (((0, 1),),)),) + tuple(("again", at, 10 ** 12 - at) for at in range(3)) + (("again", 3, 999),)
        length = 999
        for at in range(3):
            length *= 10 ** 12 - at
        self.assertEqual(begin_bar(dense, (0,), ONE, clocks, (1, 2)), (length - 1, length))
        for span in (1, 7, 400):
            tol = (2 * span + 1, 2)
            self.assertEqual(begin_marks(dense, (0,), ONE, clocks, tol), length // (span + 1))
            self.assertIsNone(begin_bar(dense, (0,), ONE, clocks, tol))
        far = dense[:3] + (("block", (((None, 96), (None, 95), (0, 1)),)), ("then", 2, 3), ("then", 4, 2))
        many = 10 ** 12 * (10 ** 12 - 1)
        self.assertEqual(begin_bar(far, (0,), ONE, clocks, (190, 1)), (many - 1, many + 191))
        self.assertIsNone(begin_bar(far, (0,), ONE, clocks, (191, 1)))

    def test_rests_between(self):
        """Rests, also again and again, ahead of, between and behind what begins."""
        clocks = ((ONE, ONE), (ONE, (2, 1)))
        rest, note = ("block", (((None, 5),),)), ("block", (((0, 1), (None, 1)),))
        rows = ((note, rest, ("then", 0, 1), ("then", 2, 0)), (note, rest, ("again", 1, 3), ("then", 0, 2), ("then", 3, 0), ("then", 4, 1)),
                (rest, note, ("again", 0, 2), ("then", 2, 1), ("ends", 3, (0, 2, 3)), ("again", 4, 2)),
                (rest, ("again", 0, 4), ("up", 1, 3)), (rest, note, ("ends", 0, (0, 1, 0)), ("back", 2), ("then", 3, 2)))
        for score in rows:
            length = plain.length(score)
            for span in range(1, length + 2):
                bar = bar_of(score, (0,), span)
                self.assertEqual(begin_bar(score, (0,), ONE, clocks, (span, 1)), bar, (score, span))
                ticks = [begin for begin in begins_of(score, (0,)) if begin]
                self.assertEqual(begin_marks(score, (0,), ONE, clocks, (span, 1)), fewest(ticks, length, lambda mark, tick: tick - mark <= span))

    def test_at_the_end(self):
        """Nothing begins at the LENGTH: the last MARK has to reach up to it."""
        clocks = ((ONE, ONE), (ONE, (2, 1)))
        score = (("block", (((0, 1), (None, 3), (1, 1), (None, 4)),)),)
        self.assertEqual(begin_bar(score, (0,), ONE, clocks, (4, 1)), (4, 9))
        self.assertIsNone(begin_bar(score, (0,), ONE, clocks, (5, 1)))
        self.assertEqual([begin_marks(score, (0,), ONE, clocks, (span, 1)) for span in (4, 5, 8, 9)], [None, 1, 1, 0])
        silent = (("block", (((None, 9),),)),)
        self.assertEqual(begin_bar(silent, (0,), ONE, clocks, (8, 1)), (0, 9))
        self.assertIsNone(begin_bar(silent, (0,), ONE, clocks, (9, 1)))
        self.assertEqual(begin_marks(silent, (0,), ONE, clocks, (9, 1)), 0)

    def test_spans(self):
        """At most 400 ticks."""
        clocks = ((ONE, ONE), (ONE, (2, 1)))
        for call in (begin_marks, begin_bar):
            call(SCORE, (0,), ONE, clocks, (400, 1))
            call(SCORE, (0,), ONE, clocks, (4009, 10))
            call(SCORE, (0,), (1, 2), clocks, (200, 1))
            self.refused(TooMany, 400, call, SCORE, (0,), ONE, clocks, (401, 1))
            self.refused(TooMany, 400, call, SCORE, (0,), (1, 10 ** 20), clocks, ONE)
            call(SCORE, (0,), (1, 10 ** 20), SAME, ONE)

    def test_errors_of_players(self):
        calls = ((first_apart, ((0,),)), (least_marks, ()), (latest_mark, (0,)))
        for call, rest in calls:
            self.refused(BadScore, None, call, None, None, None, None, *[None for _ in rest])
            self.refused(TooMany, 200, call, TOO_MANY, None, None, None, *[None for _ in rest])
            self.refused(BadTempo, "form", call, SCORE, None, None, None, *[None for _ in rest])
            self.refused(BadTempo, 0, call, SCORE, ((ONE, ONE),), None, None, *[None for _ in rest])
            for odd in NO_FRACTIONS + ((0, 1), (-1, 1)):
                self.refused(BadFraction, odd, call, SCORE, STEADY, CLOCKS, odd, *[None for _ in rest])
            self.bad_clocks(lambda clocks: (call, SCORE, STEADY, clocks, None) + tuple(None for _ in rest))

    def bad_clocks(self, row_for):
        clock = CLOCKS[0]
        for odd in ODD + (0, list(CLOCKS), CLOCKS[:1], CLOCKS + (clock,), (clock, list(clock)), (clock, (ONE,)), (clock, (ONE, ONE, ONE)),
                          (clock, ((2, 1), ONE)), (((2, 1), ONE), clock), (clock, None), (None, clock), (clock, ((0, 1), ONE)),
                          (((-1, 1), ONE), clock)):
            self.refused(BadClocks, odd, *row_for(odd))
        for odd in NO_FRACTIONS:
            self.refused(BadClocks, (clock, (odd, ONE)), *row_for((clock, (odd, ONE))))
            self.refused(BadClocks, ((ONE, odd), clock), *row_for(((ONE, odd), clock)))

    def test_errors_of_clocks(self):
        self.bad_clocks(lambda clocks: (clock_drift, clocks))
        self.assertEqual(clock_drift((((1, 2), (1, 2)), ((1, 2), (1, 2)))), (0, 1))

    def test_errors_of_marks(self):
        for odd in ODD + (0, [0], (1,), (0, 0), (0, 2, 1), (0, 13), (-1, 0), (0, True), (False,), (False, 1), (0, None), (0, 1, 1), (0, "1"),
                          (0, 10 ** 900), tuple(range(13)) + (12,)):
            self.refused(BadMarks, odd, first_apart, SCORE, STEADY, CLOCKS, ONE, odd)
        self.assertIsNone(first_apart(SCORE, STEADY, CLOCKS, (1, 30), tuple(range(13))))
        long = (A, ("again", 0, 40))
        self.assertEqual(first_apart(long, STEADY, CLOCKS, (1, 30), tuple(range(60))), 61)
        self.refused(BadMarks, tuple(range(61)), first_apart, long, STEADY, CLOCKS, ONE, tuple(range(61)))

    def test_errors_of_begins(self):
        for call in (begin_marks, begin_bar):
            self.refused(BadScore, None, call, None, None, None, None, None)
            self.refused(BadScore, 1, call, (A, None), None, None, None, None)
            self.refused(TooMany, 200, call, TOO_MANY, None, None, None, None)
            for odd in ODD + (0, [0], (1,), (0, 0), (0, 1), (-1,), (False,), (True,), ("0",), ((0,),), (10 ** 900,)):
                self.refused(BadVoices, odd, call, SCORE, odd, None, None, None)
            for odd in NO_FRACTIONS + ((0, 1), (-1, 1)):
                self.refused(BadFraction, odd, call, SCORE, (0,), odd, None, None)
                self.refused(BadFraction, odd, call, SCORE, (0,), ONE, CLOCKS, odd)
            self.bad_clocks(lambda clocks: (call, SCORE, (0,), ONE, clocks, None))
        two = (("block", (((0, 1),), ((0, 1),))),)
        self.refused(BadVoices, (1, 0), begin_bar, two, (1, 0), ONE, CLOCKS, ONE)
        self.assertEqual(begin_marks(two, (0, 1), ONE, CLOCKS, ONE), 0)


if __name__ == "__main__":
    unittest.main()

"""Starts of a playing, whether they are in time, and the tightest: [810] to [812], and tacthouse.playings."""

import itertools
import unittest
from fractions import Fraction

from tacthouse.errors import BadFraction, BadGait, BadNumber, BadPaper, BadPlaying, BadScore, BadStart, BadVoice, TooMany
from tacthouse.playings import (check_time, first_in_time, in_time, is_in_time, many_starts, start_at, tightest, time_paper)
from tests import making, playing
from tests.refusing import NO_INTEGERS, ODD, Refusing
from tests.test_slips import no_playings
from tests.test_units import MANY_TIMES, SCORE, TOO_MANY, VERY, A

GAIT = ((1, 2), (2, 1), 1)
# Each with what stands behind a playing.
WHOLE = ((many_starts, ()), (start_at, (None,)), (in_time, (None,)), (first_in_time, (None,)))
FROM_START = ((is_in_time, (None,)), (time_paper, (None,)), (check_time, (None, None)), (tightest, (None, None)))
NO_FRACTIONS = NO_INTEGERS + (0, 1, [1, 1], (1,), (1, 1, 1), (1, 0), (1, -1), (-1, -1), (2, 2), (0, 2), (True, 1), (1, True), (None, 1), ("1", 1), ((1, 1),))


def fraction(one):
    one = Fraction(one)
    return (one.numerator, one.denominator)


def starts(score, voice, played):
    """All starts, each with its strokes, (TIME, tick)."""
    notes, found = playing.notes(score, voice), {}
    for at in range(len(notes) - len(played) + 1):
        if all(note[0] == pair[0] for note, pair in zip(notes[at:], played)):
            found[at] = [(pair[1], note[1]) for note, pair in zip(notes[at:], played)]
    return found


def wanted(strokes, speed):
    """How much OFF has to be at least by a SPEED."""
    aheads = [time - speed * tick for time, tick in strokes]
    return (max(aheads) - min(aheads)) / Fraction(2)


def speeds(strokes, low, high, off):
    """All speeds from low to high that matter: the ends, and what two pairs just bear."""
    found = [low, high]
    for one, other in itertools.combinations(strokes, 2):
        for apart in (-2 * off, 0, 2 * off):
            found.append(Fraction(other[0] - one[0] + apart, other[1] - one[1]))
    return [speed for speed in found if low <= speed <= high]


def does_keep(strokes, gait):
    low, high, off = Fraction(*gait[0]), Fraction(*gait[1]), gait[2]
    return any(wanted(strokes, speed) <= off for speed in speeds(strokes, low, high, off))


def plain_tightest(strokes, low, high):
    """The least OFF, by all speeds at which two pairs of strokes want as much, or one nothing."""
    rows = [(other[0] - one[0], other[1] - one[1]) for one, other in itertools.combinations(strokes, 2)]
    found = [low, high]
    for rise, ticks in rows:
        found.append(Fraction(rise, ticks))
        for more, far in rows:
            found += [Fraction(rise - more, ticks - far)] if ticks != far else []
            found.append(Fraction(rise + more, ticks + far))
    return min(wanted(strokes, speed) for speed in found if low <= speed <= high)


def some_playing(numbers, score, voice):
    """A PLAYING of some NOTES that are there, more or less in time."""
    notes = playing.notes(score, voice)
    at, many = numbers.below(len(notes)), 1 + numbers.below(6)
    row, time, made = notes[at:at + many], numbers.below(20), []
    speed = 1 + numbers.below(6)
    for number, (pitch, begin, _) in enumerate(row):
        if number:
            time += max(1, speed * (begin - row[number - 1][1]) + numbers.below(7) - 3)
        made.append((pitch, time))
    return tuple(made)


def some_gait(numbers):
    low = Fraction(1 + numbers.below(9), 1 + numbers.below(4))
    return (fraction(low), fraction(low + Fraction(numbers.below(5), 1 + numbers.below(3))), numbers.below(4))


class Playings(Refusing, unittest.TestCase):
    def refuse(self, place, score, voice, played, note, gait, paper):
        self.refused(BadPaper, place, check_time, score, voice, played, note, gait, paper)

    def test_arguments(self):
        score, played = (("block", (((0, 2), (5, 1), (0, 2), (5, 2)),)),), ((0, 10), (5, 12))
        self.assertEqual(many_starts(score=score, voice=0, playing=played), 2)
        self.assertEqual(start_at(score=score, voice=0, playing=played, number=1), 2)
        self.assertIs(is_in_time(score=score, voice=0, playing=played, note=2, gait=GAIT), True)
        self.assertEqual(time_paper(score=score, voice=0, playing=played, note=2, gait=GAIT)[0], "in")
        paper = ("in", (1, 1), (7, 1))
        self.assertEqual(check_time(score=score, voice=0, playing=played, note=2, gait=GAIT, paper=paper), "in")
        self.assertEqual(tightest(score=score, voice=0, playing=played, note=2, low=(2, 1), high=(3, 1)), (1, 1))
        self.assertEqual(in_time(score=score, voice=0, playing=played, gait=GAIT), 2)
        self.assertEqual(first_in_time(score=score, voice=0, playing=played, gait=GAIT), 0)

    def test_against_all_speeds(self):
        counts = {"in": 0, "off": 0, "some": 0, "none": 0, "late": 0, "three": 0}
        for start in range(900):
            numbers = making.Numbers(start + 4242)
            voices = 1 + numbers.below(2)
            score = making.score(numbers, voices, 1 + numbers.below(9), 60)
            voice, last = numbers.below(voices), len(score) - 1
            if start % 4 < 2:
                score += (("slow", last, 2), ("then", last + start % 2, last + 1 - start % 2))
            if not playing.notes(score, voice):
                continue
            played, gait = some_playing(numbers, score, voice), some_gait(numbers)
            if start % 3 == 0:
                gait = ((1, 4), (20, 1), numbers.below(2))
            there = starts(score, voice, played)
            self.assertEqual(self.same(many_starts, score, voice, played), len(there), (score, voice, played))
            for number, note in enumerate(there):
                self.assertEqual(start_at(score, voice, played, number), note)
            kept = [note for note, strokes in there.items() if does_keep(strokes, gait)]
            self.assertEqual(self.same(in_time, score, voice, played, gait), len(kept), (score, voice, played, gait))
            self.assertEqual(self.same(first_in_time, score, voice, played, gait), kept[0] if kept else None)
            counts["some"] += 0 < len(kept) < len(there)
            counts["none"] += not kept
            counts["late"] += bool(kept) and kept[0] > min(there)
            for note in list(there)[:6]:
                self.assertIs(self.same(is_in_time, score, voice, played, note, gait), note in kept, (score, played, note, gait))
                paper = self.same(time_paper, score, voice, played, note, gait)
                self.assertEqual(paper[0], "in" if note in kept else "off")
                self.assertTrue(self.holds(there[note], gait, paper))
                self.assertEqual(self.same(check_time, score, voice, played, note, gait, paper), paper[0])
                counts[paper[0]] += 1
                counts["three"] += paper[0] == "off" and len(paper[1]) == 3
        self.assertTrue(min(counts.values()) > 9, counts)

    def holds(self, strokes, gait, paper):
        """Whether a PAPER of the right shape holds, by the words of [811]."""
        if paper[0] == "off":
            return not does_keep([strokes[at] for at in paper[1]], gait)
        speed, shift = Fraction(*paper[1]), Fraction(*paper[2])
        if not Fraction(*gait[0]) <= speed <= Fraction(*gait[1]):
            return False
        return all(abs(time - shift - speed * tick) <= gait[2] for time, tick in strokes)

    def test_tightest(self):
        seen = set()
        for start in range(500):
            numbers = making.Numbers(start + 808)
            score = making.score(numbers, 1, 1 + numbers.below(9), 60)
            if not playing.notes(score, 0):
                continue
            played, (low, high, _) = some_playing(numbers, score, 0), some_gait(numbers)
            if start % 5 == 0:
                high = low
            for note, strokes in list(starts(score, 0, played).items())[:3]:
                told = self.same(tightest, score, 0, played, note, low, high)
                self.assertEqual(told, fraction(plain_tightest(strokes, Fraction(*low), Fraction(*high))), (strokes, low, high))
                off = -(-told[0] // told[1])
                self.assertIs(is_in_time(score, 0, played, note, (low, high, off)), True)
                if off:
                    self.assertIs(is_in_time(score, 0, played, note, (low, high, off - 1)), False)
                seen.add((low == high, told[0] > 0, told[1]))
        self.assertTrue({(same, True, bottom) for same in (True, False) for bottom in (1, 2)} <= seen and (False, False, 1) in seen and len({one[2] for one in seen}) > 6, seen)

    def test_tightest_by_hand(self):
        score = (("block", (((0, 4), (0, 4), (0, 4)),)),)
        played = ((0, 0), (0, 10), (0, 30))
        # From 0 to 30 by 8 ticks; the middle one is 5 off.
        self.assertEqual(tightest(score, 0, played, 0, (1, 1), (9, 1)), (5, 2))
        self.assertEqual(tightest(score, 0, played, 0, (1, 100), (1, 100)), fraction((30 - Fraction(8, 100)) / 2))
        self.assertEqual(tightest(score, 0, played, 0, (100, 1), (200, 1)), fraction((800 - 30) / Fraction(2)))
        self.assertEqual(tightest(score, 0, ((0, 7),), 1, (1, 3), (1, 3)), (0, 1))
        self.assertEqual(tightest(score, 0, ((0, 7), (0, 9)), 1, (1, 3), (1, 2)), (0, 1))
        self.assertEqual(tightest(score, 0, ((0, 7), (0, 9)), 1, (1, 4), (1, 3)), (1, 3))
        # Perhaps above 10 ** 9.
        self.assertEqual(tightest(score, 0, ((0, 0), (0, 1)), 0, (10 ** 12, 1), (10 ** 12 + 1, 1)), fraction((4 * 10 ** 12 - 1) / Fraction(2)))

    def test_ends_of_what_is_borne(self):
        """OFF, LOW and HIGH are borne themselves."""
        score = (("block", (((0, 3), (1, 3), (2, 3)),)),)
        for first, gait, told in ((3, ((1, 1), (1, 1), 0), True), (4, ((1, 1), (1, 1), 0), False), (5, ((1, 1), (1, 1), 1), True), (6, ((1, 1), (1, 1), 1), False),
                                  (1, ((1, 1), (1, 1), 1), True), (4, ((1, 1), (4, 3), 0), True), (4, ((1, 1), (5, 4), 0), False), (4, ((4, 3), (9, 1), 0), True),
                                  (4, ((3, 2), (9, 1), 0), False), (4, ((2, 1), (9, 1), 1), True), (4, ((13, 6), (9, 1), 1), False)):
            played = ((0, 5), (1, 5 + first))
            self.assertIs(is_in_time(score, 0, played, 0, gait), told, (first, gait))
            self.assertEqual(time_paper(score, 0, played, 0, gait)[0], "in" if told else "off")
            if not told:
                self.assertEqual(time_paper(score, 0, played, 0, gait), ("off", (0, 1)))
        # Any two can be in time, the three cannot.
        three = ((0, 0), (1, 4), (2, 6))
        gait = ((1, 3), (3, 1), 0)
        self.assertEqual(time_paper(score, 0, three, 0, gait), ("off", (0, 1, 2)))
        for lot in ((0, 1), (0, 2), (1, 2)):
            self.refuse("off", score, 0, three, 0, gait, ("off", lot))
        self.assertEqual(check_time(score, 0, three, 0, gait, ("off", (0, 1, 2))), "off")
        # Three that have two, which would do.
        self.assertEqual(check_time(score, 0, three, 0, ((1, 3), (1, 1), 0), ("off", (0, 1, 2))), "off")
        self.assertEqual(check_time(score, 0, three, 0, ((1, 3), (1, 1), 0), ("off", (0, 1))), "off")
        self.refuse("off", score, 0, three, 0, ((1, 3), (1, 1), 0), ("off", (1, 2)))

    def test_papers_of_eight(self):
        """A lot of three is enough, also of eight pairs that are all near but for one."""
        score = (("block", (tuple((0, 2) for _ in range(12)),)), ("again", 0, 10 ** 12))
        for at in range(8):
            played = tuple((0, 100 + 20 * number + (7 if number == at else 0)) for number in range(8))
            for off in (0, 1, 3, 4):
                gait = ((1, 1), (100, 1), off)
                paper = time_paper(score, 0, played, 10 ** 11, gait)
                strokes = [(time, 2 * number) for number, (_, time) in enumerate(played)]
                self.assertEqual(paper[0], "in" if does_keep(strokes, gait) else "off")
                self.assertEqual(check_time(score, 0, played, 10 ** 11, gait, paper), paper[0])
                if paper[0] == "off":
                    self.assertEqual(len(paper[1]), 3)
                    self.assertIn(at, paper[1])
                    for more in range(8):
                        lot = tuple(sorted({*paper[1], more}))
                        if len(lot) == 4:
                            self.refuse("off", score, 0, played, 10 ** 11, gait, ("off", lot))
                    self.refuse("off", score, 0, played, 10 ** 11, gait, ("off", tuple(range(8))))

    def test_wrong_papers(self):
        score = (("block", (((0, 3), (1, 3), (2, 3)),)),)
        played, gait = ((0, 3), (1, 9), (2, 15)), ((1, 1), (3, 1), 1)
        self.assertEqual(check_time(score, 0, played, 0, gait, ("in", (2, 1), (3, 1))), "in")
        for speed, shift in (((2, 1), (2, 1)), ((2, 1), (4, 1)), ((5, 3), (4, 1)), ((7, 3), (2, 1)), ((2, 1), (7, 2))):
            self.assertEqual(check_time(score, 0, played, 0, gait, ("in", speed, shift)), "in")
        for speed, shift in (((2, 1), (1, 1)), ((2, 1), (5, 1)), ((2, 1), (41, 10)), ((2, 1), (19, 10)), ((1, 1), (3, 1)), ((3, 1), (0, 1)), ((5, 3), (3, 1)), ((7, 3), (3, 1))):
            self.refuse("in", score, 0, played, 0, gait, ("in", speed, shift))
        # A speed that is beyond the gait.
        self.refuse("in", score, 0, played, 0, ((1, 1), (15, 8), 1), ("in", (2, 1), (3, 1)))
        self.refuse("in", score, 0, played, 0, ((17, 8), (3, 1), 1), ("in", (2, 1), (3, 1)))
        self.assertEqual(check_time(score, 0, played, 0, ((2, 1), (2, 1), 0), ("in", (2, 1), (3, 1))), "in")
        for odd in NO_FRACTIONS:
            self.refuse("in", score, 0, played, 0, gait, ("in", odd, (3, 1)))
            self.refuse("in", score, 0, played, 0, gait, ("in", (2, 1), odd))
        self.assertEqual(check_time(score, 0, ((0, 0), (1, 1)), 0, ((1, 1), (1, 1), 1), ("in", (1, 1), (-1, 1))), "in")
        wrong = ((2, 1), (2, 1), 0)
        late = ((0, 3), (1, 9), (2, 16))
        self.assertEqual(check_time(score, 0, late, 0, wrong, ("off", (1, 2))), "off")
        for odd in ODD + NO_INTEGERS + (0, [1, 2], (1,), (0, 1), (2, 1), (1, 1), (1, 3), (-1, 2), (0, 1, 2, 3), (0, 1, 1), (True, 2), (0, None), (0, "2"), ((0, 1, 2),), (1, 10 ** 900)):
            self.refuse("off", score, 0, late, 0, wrong, ("off", odd))
        self.refuse("off", score, 0, played, 0, gait, ("off", (0, 1, 2)))
        told = time_paper(score, 0, played, 0, gait)
        for odd in ODD + (told[:2], told + (0,), list(told), ("In",) + told[1:], ("off",), ("off", (0, 1), 0), (None, (0, 1)), ("in", (0, 1))):
            self.refuse("form", score, 0, played, 0, gait, odd)

    def test_starts(self):
        """A start has all pitches, in turn, one next behind the other; rests lie between."""
        score = (("block", (((0, 1), (None, 2), (0, 1), (5, 1), (0, 1)),)), ("again", 0, 3))
        for played, told in ((((0, 0),), (0, 1, 3, 4, 5, 7, 8, 9, 11)), (((0, 0), (0, 1)), (0, 3, 4, 7, 8)), (((0, 0), (5, 1), (0, 2)), (1, 5, 9)),
                             (((5, 0), (0, 1), (0, 2), (0, 3), (5, 4)), (2, 6)), (((5, 0), (5, 1)), ()), (((0, 0), (0, 1), (0, 2), (0, 3)), ()),
                             (((0, 0), (0, 1), (5, 2), (0, 3), (0, 4), (0, 5), (5, 6), (0, 7)), (0, 4))):
            self.assertEqual(many_starts(score, 0, played), len(told))
            self.assertEqual(tuple(start_at(score, 0, played, number) for number in range(len(told))), told)
            for odd in NO_INTEGERS + (-1, len(told), 10 ** 900):
                self.refused(BadNumber, odd, start_at, score, 0, played, odd)
            for note in range(-1, 14):
                if note in told:
                    is_in_time(score, 0, played, note, GAIT)
                else:
                    for call, rest in FROM_START:
                        self.refused(BadStart, note, call, score, 0, played, note, *rest)
        silent = (("block", (((None, 3),),)),)
        self.assertEqual(many_starts(silent, 0, ((0, 0),)), 0)
        self.assertEqual(in_time(silent, 0, ((0, 0),), GAIT), 0)
        self.assertIsNone(first_in_time(silent, 0, ((0, 0),), GAIT))
        self.refused(BadStart, 0, is_in_time, silent, 0, ((0, 0),), 0, GAIT)

    def test_one_pair(self):
        """It always is in time."""
        score = (("block", (((0, 1), (5, 1)),)), ("again", 0, 10 ** 12))
        self.assertEqual(in_time(score, 0, ((5, 3),), ((1, 1), (1, 1), 0)), 10 ** 12)
        self.assertEqual(first_in_time(score, 0, ((5, 3),), ((1, 1), (1, 1), 0)), 1)
        paper = time_paper(score, 0, ((5, 3),), 10 ** 12 - 1, ((1, 1), (1, 1), 0))
        self.assertEqual(paper, ("in", (1, 1), (3 - (10 ** 12 - 1), 1)))
        self.assertEqual(check_time(score, 0, ((5, 3),), 10 ** 12 - 1, ((1, 1), (1, 1), 0), paper), "in")

    def test_very_long(self):
        walk = (("block", (((0, 1), (5, 2), (None, 1), (7, 1)),)),) + tuple(("again", at, 10 ** 12) for at in range(3)) + (("slow", 3, 2), ("then", 3, 4), ("back", 5))
        times = 10 ** 36
        played = ((0, 0), (5, 1), (7, 4))
        self.assertEqual(many_starts(walk[:6], 0, played), 2 * times)
        self.assertEqual([start_at(walk[:6], 0, played, number) for number in (0, 10 ** 35, 2 * times - 1)], [0, 3 * 10 ** 35, 6 * times - 3])
        self.assertEqual(in_time(walk[:6], 0, played, ((1, 1), (1, 1), 0)), times)
        self.assertEqual(in_time(walk[:6], 0, played, ((1, 2), (1, 2), 0)), times)
        self.assertEqual(in_time(walk[:6], 0, played, ((1, 2), (1, 1), 0)), 2 * times)
        self.assertEqual(first_in_time(walk[:6], 0, played, ((1, 2), (1, 2), 0)), 3 * times)
        self.assertEqual(first_in_time(walk[:6], 0, played, ((1, 1), (2, 1), 0)), 0)
        self.assertIsNone(first_in_time(walk[:6], 0, played, ((2, 1), (3, 1), 0)))
        # Over the joint: 5, 7 at the old pace, 0 and 5 at the new one; just there.
        joint = ((5, 0), (7, 3), (0, 4), (5, 6))
        self.assertEqual(many_starts(walk[:6], 0, joint), 2 * times - 1)
        self.assertEqual(in_time(walk[:6], 0, joint, ((1, 1), (1, 1), 0)), 1)
        self.assertEqual(first_in_time(walk[:6], 0, joint, ((1, 1), (1, 1), 0)), 3 * times - 2)
        self.assertEqual(tightest(walk[:6], 0, joint, 3 * times - 2, (1, 2), (3, 2)), (0, 1))
        self.assertEqual(tightest(walk[:6], 0, joint, 3 * times + 1, (1, 2), (1, 2)), (1, 2))
        paper = time_paper(walk[:6], 0, joint, 3 * times - 2, ((1, 1), (1, 1), 0))
        self.assertEqual(paper, ("in", (1, 1), (-(5 * times - 4), 1)))
        self.assertEqual(check_time(walk[:6], 0, joint, 3 * times - 2, ((1, 1), (1, 1), 0), paper), "in")
        self.refuse("in", walk[:6], 0, joint, 3 * times - 2, ((1, 1), (1, 1), 0), ("in", (1, 1), (-(5 * times - 3), 1)))
        back = ((7, 0), (5, 2), (0, 4))
        self.assertEqual(many_starts(walk, 0, back), 2 * times)
        self.assertEqual(in_time(walk, 0, back, ((1, 1), (1, 1), 0)), times)
        self.assertEqual(first_in_time(walk, 0, back, ((1, 1), (1, 1), 0)), 3 * times)
        self.assertEqual(many_starts(VERY, 0, ((3, 0), (3, 1), (3, 2))), 2 * MANY_TIMES - 2)
        self.assertEqual(in_time(VERY, 0, ((3, 0), (3, 1), (3, 6)), ((1, 1), (1, 1), 0)), MANY_TIMES - 1)
        self.assertEqual(in_time(VERY, 0, ((3, 0), (3, 5), (3, 6)), ((1, 1), (1, 1), 0)), MANY_TIMES - 1)

    def test_long_rests(self):
        """Notes that are far apart are played with times that are not."""
        rest = (("block", (((None, 96),),)),) + tuple(("again", at, 10 ** 12) for at in range(3))
        score = rest + (("block", (((0, 1), (2, 1)),)), ("ends", 4, (3, 4)))
        played, gap = ((0, 0), (2, 1), (0, 1000), (2, 1001)), 96 * 10 ** 36
        self.assertEqual(many_starts(score, 0, played), 2)
        self.assertEqual(in_time(score, 0, played, ((1, 1), (1, 1), 10 ** 9)), 1)
        self.assertEqual(first_in_time(score, 0, played, ((1, 1), (1, 1), 10 ** 9)), 2)
        self.assertEqual(in_time(score, 0, played, ((1, gap), (1, 1), 500)), 2)
        self.assertEqual(tightest(score, 0, played, 0, (1, 1), (1, 1)), fraction(Fraction(gap + 3 - 1001, 2)))

    def test_gaits(self):
        score, played = SCORE, ((0, 0),)
        for gait in (GAIT, ((1, 1), (1, 1), 0), ((1, 10 ** 60), (10 ** 60, 1), 10 ** 9)):
            self.assertIs(is_in_time(score, 0, played, 0, gait), True)
        for odd in ODD + (0, list(GAIT), GAIT[:2], GAIT + (0,), ((2, 1), (1, 1), 0), ((0, 1), (1, 1), 0), ((-1, 1), (1, 1), 0), ((1, 1), (1, 1), -1), ((1, 1), (1, 1), 10 ** 9 + 1),
                          ((1, 1), (1, 1), True), ((1, 1), (1, 1), None), ((1, 1), (1, 1), (1, 1))) + tuple((one, (9, 1), 0) for one in NO_FRACTIONS) + tuple(((1, 1), one, 0) for one in NO_FRACTIONS):
            self.refused(BadGait, odd, is_in_time, score, 0, played, 0, odd)
            self.refused(BadGait, odd, time_paper, score, 0, played, 0, odd)
            self.refused(BadGait, odd, check_time, score, 0, played, 0, odd, None)
            self.refused(BadGait, odd, in_time, score, 0, played, odd)
            self.refused(BadGait, odd, first_in_time, score, 0, played, odd)

    def test_errors(self):
        for call, rest in WHOLE + tuple((call, (None,) + rest) for call, rest in FROM_START):
            self.refused(BadScore, None, call, None, None, None, *rest)
            self.refused(BadScore, 1, call, (A, None), None, None, *rest)
            self.refused(TooMany, 200, call, TOO_MANY, None, None, *rest)
            for odd in NO_INTEGERS + (-1, 1, 10 ** 900):
                self.refused(BadVoice, odd, call, SCORE, odd, None, *rest)
            for odd in no_playings():
                self.refused(BadPlaying, odd, call, SCORE, 0, odd, *rest)
        for call, rest in FROM_START:
            for odd in NO_INTEGERS + (-1, 4, 10 ** 900):
                self.refused(BadStart, odd, call, SCORE, 0, ((0, 0),), odd, *rest)
        for odd in NO_FRACTIONS + ((0, 1), (-1, 1)):
            self.refused(BadFraction, odd, tightest, SCORE, 0, ((0, 0),), 0, odd, None)
            self.refused(BadFraction, odd, tightest, SCORE, 0, ((0, 0),), 0, (1, 1), odd)
        self.refused(BadFraction, (1, 1), tightest, SCORE, 0, ((0, 0),), 0, (3, 2), (1, 1))
        self.assertEqual(tightest(SCORE, 0, ((0, 0),), 0, (3, 2), (3, 2)), (0, 1))


if __name__ == "__main__":
    unittest.main()

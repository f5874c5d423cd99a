"""Rounds of voices, singer by singer: [500] to [502], [513], and tacthouse.distances."""

import unittest

from tacthouse.distances import first_clash, is_clean, pairs_of
from tacthouse.errors import BadGood, BadNumber, BadRound, BadScore, TooMany
from tests import making, plain
from tests.refusing import NO_INTEGERS, ODD, Refusing
from tests.test_units import MANY_TIMES, SCORE, TOO_MANY, VERY, A, no_rounds, unit

GOOD = (0, 3, 4, 7, 8, 9)


def pairs(score, song, number):
    """All PAIRS, tick by tick."""
    heard, apart = [pitch for pitch, _ in plain.sounds(score, song[0])], number * song[1]
    return tuple(sorted({(one, other) for one, other in zip(heard, heard[apart:]) if one is not None and other is not None}))


def clashes(score, song, good, number, ahead=0):
    """The ticks at which two singers clash who are so many apart, from the beginning of the 0-th one; the one is ahead-th."""
    heard, found = [pitch for pitch, _ in plain.sounds(score, song[0])], []
    for tick in range(len(heard) + (ahead + number) * song[1]):
        both = []
        for singer in (ahead, ahead + number):
            at = tick - singer * song[1]
            pitch = heard[at] if 0 <= at < len(heard) else None
            both.append(None if pitch is None else pitch + singer * song[2])
        if None not in both and (both[1] - both[0]) % 12 not in good:
            found.append(tick)
    return found


def most(score, song):
    heard = [pitch for pitch, _ in plain.sounds(score, song[0]) if pitch is not None]
    if not song[2] or not heard:
        return None
    return next(number for number in range(200) if any(abs(pitch + (number + 1) * song[2]) > 60 for pitch in heard))


class Distances(Refusing, unittest.TestCase):
    def test_arguments(self):
        self.assertEqual(pairs_of(score=SCORE, song=(0, 4, 7), number=2), ((0, 0),))
        self.assertIs(is_clean(score=SCORE, song=(0, 4, 7), good=(2,), number=2), True)
        self.assertEqual(first_clash(score=SCORE, song=(0, 4, 7), good=(7,), number=2), 9)

    def test_against_a_plain_look(self):
        counts = {"clean": 0, "clash": 0, "far": 0, "many": 0, "over": 0}
        for start in range(400):
            numbers = making.Numbers(start + 800)
            voices = 1 + numbers.below(3)
            score = making.score(numbers, voices, 2 + numbers.below(11), 120)
            if start % 4 == 0:
                score += (("slow", len(score) - 1, 2 + numbers.below(2)),)
            if numbers.below(3) == 0:
                score += (("up", len(score) - 1, numbers.below(20) - 10),)
            song = (numbers.below(voices), 1 + numbers.below(14), (0, 0, 1, -1, 5, -7, 24)[numbers.below(7)])
            good = tuple(rest for rest in range(12) if numbers.below(4))
            span, length = song[1] // unit(score, song[0], song[1]), plain.length(score)
            for number in (1, 2, 3, 1 + numbers.below(30), 401, 10 ** 40):
                if most(score, song) is not None and number > most(score, song):
                    counts["many"] += 1
                    self.refused(BadNumber, number, pairs_of, score, song, number)
                    self.refused(BadNumber, number, is_clean, score, song, good, number)
                    self.refused(BadNumber, number, first_clash, score, song, good, number)
                    continue
                counts["over"] += number * song[1] >= length
                if number * span > 400:
                    counts["far"] += 1
                    self.refused(TooMany, 400, pairs_of, score, song, number)
                else:
                    self.assertEqual(self.same(pairs_of, score, song, number), pairs(score, song, number), (score, song, number))
                ticks = [] if number * song[1] >= length else clashes(score, song, good, number)
                counts["clash" if ticks else "clean"] += 1
                self.assertIs(self.same(is_clean, score, song, good, number), not ticks)
                self.assertEqual(self.same(first_clash, score, song, good, number), min(ticks, default=None), (score, song, good, number))
        self.assertTrue(min(counts.values()) > 50, counts)

    def test_any_two_singers(self):
        """They clash as the 0-th one and the one as far behind it do."""
        for start in range(60):
            numbers = making.Numbers(start + 3)
            score = making.score(numbers, 1, 6, 40)
            song, good = (0, 1 + numbers.below(9), numbers.below(5) - 2), (0, 1, 2, 3, 5, 7)
            for number in (1, 2):
                for ahead in (1, 3):
                    told = clashes(score, song, good, number, ahead)
                    if most(score, song) is None or number <= most(score, song):
                        self.assertIs(is_clean(score, song, good, number), not told)
                        if told:
                            self.assertEqual(first_clash(score, song, good, number), told[0] - ahead * song[1])

    def test_again_and_again(self):
        """Against the same a few times: all that can come has come then."""
        row = ((0, 2), (None, 1), (5, 1), (7, 3), (None, 2))
        for delay in (1, 2, 5, 9, 13, 100):
            for number in (1, 2, 3, 4):
                few = number * delay // 9 + 4
                small, great = [(("block", (row,)), ("again", 0, many)) for many in (few, 10 ** 12)]
                for up in (0, 1, -3):
                    song = (0, delay, up)
                    self.assertEqual(pairs_of(great, song, number), pairs(small, song, number))
                    ticks = clashes(small, song, GOOD, number)
                    self.assertEqual(first_clash(great, song, GOOD, number), min(ticks, default=None))

    def test_very_long(self):
        # Three ticks of six sound; five behind they meet at two, with themselves.
        self.assertEqual(pairs_of(VERY, (0, 1, 0), 5), ((3, 3),))
        self.assertEqual(pairs_of(VERY, (0, 1, 0), 3), ())
        self.assertEqual(pairs_of(VERY, (0, 3, 1), 1), ())
        self.assertEqual(first_clash(VERY, (0, 3, 1), (), 2), 8)
        # The first of the one within the round behind.
        self.assertEqual(first_clash(VERY, (0, 5, 1), (), 1), 8)
        self.assertIs(is_clean(VERY, (0, 5, 1), (1,), 1), True)
        half = 6 * 10 ** 36
        two = VERY[:4] + (("up", 3, 1), ("then", 3, 4))
        # At the joint alone 3 comes ahead of 4, six behind.
        self.assertEqual(pairs_of(two, (0, 6, 0), 1), ((3, 3), (3, 4), (4, 4)))
        self.assertEqual(first_clash(two, (0, 6, 0), (0,), 1), half + 2)
        self.assertEqual(first_clash(two, (0, 5, 0), (0,), 2), half + 2)
        self.assertIs(is_clean(two, (0, 6, 0), (0, 11), 1), True)
        self.assertIs(is_clean(two, (0, 6, 0), (0, 1), 1), False)
        back = two + (("back", 5), ("turned", 6))
        self.assertEqual(pairs_of(back, (0, 6, 0), 1), ((-4, -4), (-4, -3), (-3, -3)))
        self.assertEqual(first_clash(back, (0, 6, 0), (0,), 1), half + 1)
        # So far apart that nobody sings together, and just not.
        length = 6 * MANY_TIMES
        for delay in (length, 10 ** 40):
            self.assertIs(is_clean(VERY, (1, delay, 0), (), 1), True)
            self.assertIsNone(first_clash(VERY, (1, delay, 0), (), 10 ** 900))
            self.refused(TooMany, 400, pairs_of, VERY, (1, 10 ** 40 - 1, 0), 1)
        self.refused(TooMany, 400, is_clean, VERY, (1, length - 1, 0), (), 1)
        self.refused(TooMany, 400, first_clash, VERY, (1, length - 1, 0), (), 1)

    def test_how_far(self):
        """Up to 400 UNITS."""
        score = (("block", (((0, 1), (2, 1), (None, 1)),)), ("again", 0, 1000))
        self.assertEqual(pairs_of(score, (0, 1, 0), 400), pairs(score, (0, 1, 0), 400))
        self.assertEqual(first_clash(score, (0, 50, 0), (2,), 8), clashes(score, (0, 50, 0), (2,), 8)[0])
        for song, number in (((0, 1, 0), 401), ((0, 401, 0), 1), ((0, 50, 0), 9)):
            for call, rest in ((pairs_of, ()), (is_clean, (GOOD,)), (first_clash, (GOOD,))):
                self.refused(TooMany, 400, call, score, song, *rest, number)
        # By greater UNITS farther.
        wide = (("block", (((0, 10), (2, 20)),)), ("again", 0, 1000))
        self.assertEqual(pairs_of(wide, (0, 40, 0), 100), pairs(wide, (0, 40, 0), 100))
        self.refused(TooMany, 400, pairs_of, wide, (0, 40, 0), 101)
        self.refused(TooMany, 400, pairs_of, wide, (0, 41, 0), 10)
        # Where nobody sings together it is clean, but the PAIRS are not told.
        self.assertIs(is_clean(wide, (0, 41, 0), (), 10 ** 6), True)
        self.refused(TooMany, 400, pairs_of, wide, (0, 41, 0), 10 ** 6)
        short = (("block", (((0, 5),),)),)
        self.assertEqual(pairs_of(short, (0, 1, 0), 400), ())
        self.refused(TooMany, 400, pairs_of, short, (0, 1, 0), 401)
        self.assertEqual(pairs_of(short, (0, 5, 0), 400), ())

    def test_rounds_that_go_up_and_down(self):
        score = (("block", (((50, 1), (-50, 1)),)), ("again", 0, 9))
        for up, most_there in ((1, 10), (-1, 10), (5, 2), (-5, 2), (10, 1), (-10, 1), (11, 0), (-24, 0)):
            for call, rest in ((pairs_of, ()), (is_clean, (GOOD,)), (first_clash, (GOOD,))):
                if most_there:
                    call(score, (0, 1, up), *rest, most_there)
                self.refused(BadNumber, most_there + 1, call, score, (0, 1, up), *rest, most_there + 1)
        self.assertEqual(pairs_of(score, (0, 1, 1), 1), pairs_of(score, (0, 1, -1), 1))
        self.assertEqual(pairs_of((("block", (((None, 3),),)),), (0, 1, 24), 400), ())

    def test_errors(self):
        calls = ((pairs_of, ()), (is_clean, (GOOD,)), (first_clash, (GOOD,)))
        for call, rest in calls:
            nothing = tuple(None for _ in rest)
            for odd in no_rounds(1):
                self.refused(BadRound, odd, call, SCORE, odd, *nothing, None)
            self.refused(BadScore, None, call, None, None, *nothing, None)
            self.refused(BadScore, 1, call, (A, None), None, *nothing, None)
            self.refused(TooMany, 200, call, TOO_MANY, None, *nothing, None)
            for odd in NO_INTEGERS + (0, -1, -10 ** 900):
                self.refused(BadNumber, odd, call, SCORE, (0, 1, 0), *rest, odd)
                self.refused(BadNumber, odd, call, SCORE, (0, 10 ** 40, 24), *rest, odd)
        for call in (is_clean, first_clash):
            for odd in ODD + (0, [0], (12,), (-1,), (1, 0), (0, 0), (True,), (False,), (0, None), ("0",), (0, 10 ** 900), ((0,),)):
                if odd != ():
                    self.refused(BadGood, odd, call, SCORE, (0, 1, 0), odd, None)
            call(SCORE, (0, 1, 0), (), 1)
            call(SCORE, (0, 1, 0), tuple(range(12)), 1)


if __name__ == "__main__":
    unittest.main()

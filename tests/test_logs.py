"""Logs of clocks that drift: [320] to [324], and tacthouse.logs."""

import unittest
from fractions import Fraction

from tacthouse.errors import BadLog, BadMoment, BadPaper, NoTimes
from tacthouse.logs import (can_be, check_log, check_most, do_fit, log_moments, log_paper, log_steps, most_behind, most_paper,
                            need_log)
from tests.making import Numbers
from tests.refusing import NO_INTEGERS, ODD, Refusing
from tests.test_tempos import NO_FRACTIONS, pair

ONE = (1, 1)
CLOCK = ((9, 10), (11, 10), ((0, 1), (10, 1)))
LOG = ((CLOCK, ((1, 1), (1, 1), ((-5, 1), (5, 1)))), (((0, 0), (1, 0), (1, 1), (2, 1)), ((1, 1), (0, 1), (0, 1), None)))


def plain_steps(log):
    """The STEPS by the words of [322], with Fractions: a dict of the least BOUND by (MOMENT, MOMENT)."""
    found = []
    for player, (low, high, readings) in enumerate(log[0]):
        for at in range(len(readings) - 1):
            rise = Fraction(*readings[at + 1]) - Fraction(*readings[at])
            found.append(((player, at), (player, at + 1), Fraction(*high) * rise))
            found.append(((player, at + 1), (player, at), -Fraction(*low) * rise))
    for sent, heard, least, most in log[1]:
        if most is not None:
            found.append((sent, heard, Fraction(*most)))
        found.append((heard, sent, -Fraction(*least)))
    return {key: min(bound for *two, bound in found if tuple(two) == key) for key in {(one, far) for one, far, _ in found}}


def plain_moments(log):
    return [(player, at) for player, one in enumerate(log[0]) for at in range(len(one[2]))]


def ways(steps, one, far, behind=()):
    """(sum, WAY) of all WAYS from one MOMENT to another without a MOMENT twice."""
    if one == far:
        yield Fraction(0), (one,)
        return
    for (start, end), bound in steps.items():
        if start == one and end not in behind + (one,):
            for total, way in ways(steps, end, far, behind + (one,)):
                yield bound + total, (one,) + way


def rings(log, steps):
    """(sum, RING) of all RINGS."""
    for (start, end), bound in steps.items():
        for total, way in ways(steps, end, start):
            yield bound + total, way


def fits(log, times):
    """Whether TIMES fit, by the words of [321]."""
    at = [[Fraction(*time) for time in row] for row in times]
    for row, (low, high, readings) in zip(at, log[0]):
        for k in range(len(readings) - 1):
            rise = Fraction(*readings[k + 1]) - Fraction(*readings[k])
            if not Fraction(*low) * rise <= row[k + 1] - row[k] <= Fraction(*high) * rise:
                return False
    for sent, heard, least, most in log[1]:
        later = at[heard[0]][heard[1]] - at[sent[0]][sent[1]]
        if later < Fraction(*least) or most is not None and later > Fraction(*most):
            return False
    return True


def all_sums(steps, moments):
    """The least sums of ways between all MOMENTS, by going over each MOMENT in turn."""
    sums = {(one, far): steps.get((one, far)) for one in moments for far in moments}
    for one in moments:
        sums[(one, one)] = min(Fraction(0), sums[(one, one)] or Fraction(0))
    for over in moments:
        for one in moments:
            for far in moments:
                if sums[(one, over)] is not None and sums[(over, far)] is not None:
                    total = sums[(one, over)] + sums[(over, far)]
                    if sums[(one, far)] is None or total < sums[(one, far)]:
                        sums[(one, far)] = total
    return sums


def log_of(numbers, players, readings, letters):
    """A LOG that is near enough to what really was that about half of them can be."""
    made, real = [], []
    for _ in range(players):
        rate, time, reading = Fraction(8 + numbers.below(5), 10), Fraction(numbers.below(9)), Fraction(numbers.below(50) - 25)
        rows, times = [], []
        for _ in range(1 + numbers.below(readings)):
            rows.append(pair(reading))
            times.append(time)
            rise = Fraction(1 + numbers.below(8), 1 + numbers.below(3))
            reading += rise
            time += rise * rate
        wide = Fraction(numbers.below(2), 10)
        made.append((pair(max(Fraction(1, 10), rate - wide)), pair(rate + wide), tuple(rows)))
        real.append(times)
    sent = []
    for _ in range(2 + numbers.below(letters - 1) if players > 1 else 0):
        one = numbers.below(players)
        other = (one + 1 + numbers.below(players - 1)) % players
        start, end = (one, numbers.below(len(real[one]))), (other, numbers.below(len(real[other])))
        far = real[end[0]][end[1]] - real[start[0]][start[1]] + Fraction(numbers.below(9) - 4, 3 + numbers.below(4))
        if far >= 0:
            least = far * Fraction(1 + numbers.below(4), 4)
            most = None if numbers.below(4) == 0 else pair(max(least, far) + Fraction(numbers.below(3), 6))
            sent.append((start, end, pair(least), most))
    return (tuple(made), tuple(sent))


class Logs(Refusing, unittest.TestCase):
    def test_arguments(self):
        times = log_paper(LOG)[1]
        self.assertIs(need_log(thing=LOG), LOG)
        self.assertEqual(log_moments(log=LOG), ((0, 0), (0, 1), (1, 0), (1, 1)))
        self.assertEqual(log_steps(log=LOG), log_steps(LOG))
        self.assertIs(do_fit(log=LOG, times=times), True)
        self.assertIs(can_be(log=LOG), True)
        self.assertEqual(log_paper(log=LOG), log_paper(LOG))
        self.assertEqual(check_log(log=LOG, paper=("times", times)), "times")
        self.assertEqual(most_behind(log=LOG, one=(0, 0), far=(0, 1)), (11, 1))
        paper = most_paper(log=LOG, one=(0, 0), far=(0, 1))
        self.assertEqual(check_most(log=LOG, one=(0, 0), far=(0, 1), paper=paper), "most")

    def test_told_values(self):
        self.assertEqual(log_steps(LOG), (
            ((0, 0), (0, 1), (11, 1)), ((0, 0), (1, 0), (2, 1)), ((0, 1), (0, 0), (-9, 1)), ((0, 1), (1, 1), (0, 1)),
            ((1, 0), (0, 0), (-1, 1)), ((1, 0), (1, 1), (10, 1)), ((1, 1), (1, 0), (-10, 1))))
        # From 0 to 11 behind it is heard; by the other clock ten ticks go by, and a letter has come in between.
        self.assertEqual(most_behind(LOG, (0, 1), (0, 0)), (-11, 1))
        self.assertEqual(most_behind(LOG, (1, 1), (0, 1)), (0, 1))
        self.assertEqual(most_behind(LOG, (0, 0), (0, 0)), (0, 1))
        alone = (LOG[0], ())
        self.assertIsNone(most_behind(alone, (0, 0), (1, 0)))
        self.assertEqual(most_paper(alone, (0, 0), (1, 1)), ("free", ((1, 0), (1, 1))))
        self.assertEqual(check_log(alone, ("times", (((0, 1), (10, 1)), ((7, 1), (17, 1))))), "times")

    def test_of_several_steps_the_least_counts(self):
        players = (((1, 1), (1, 1), ((0, 1),)), ((1, 1), (1, 1), ((0, 1),)))
        letters = (((0, 0), (1, 0), (1, 1), (9, 1)), ((0, 0), (1, 0), (3, 1), None), ((0, 0), (1, 0), (0, 1), (5, 1)),
                   ((1, 0), (0, 0), (0, 1), None))
        self.assertEqual(log_steps((players, letters[:3])), (((0, 0), (1, 0), (5, 1)), ((1, 0), (0, 0), (-3, 1))))
        self.assertEqual(log_steps((players, letters)), (((0, 0), (1, 0), (0, 1)), ((1, 0), (0, 0), (-3, 1))))
        self.assertEqual(log_steps((players, letters[1:2])), (((1, 0), (0, 0), (-3, 1)),))
        self.assertEqual(log_paper((players, letters))[0], "ring")

    def test_small_logs(self):
        """Against all ways and all rings."""
        words = {"times": 0, "ring": 0, "most": 0, "free": 0}
        for start in range(260):
            numbers = Numbers(start)
            log = log_of(numbers, 1 + numbers.below(3), 3, 7)
            steps, moments = plain_steps(log), plain_moments(log)
            self.assertEqual(self.same(log_moments, log), tuple(moments))
            self.assertEqual(self.same(log_steps, log), tuple((*key, pair(steps[key])) for key in sorted(steps)))
            below = sorted((ring for total, ring in rings(log, steps) if total < 0), key=len)
            paper = self.same(log_paper, log)
            words[paper[0]] += 1
            self.assertEqual(paper[0], "ring" if below else "times")
            self.assertIs(self.same(can_be, log), not below)
            self.assertEqual(self.same(check_log, log, paper), paper[0])
            if below:
                self.cannot_be(log, steps, below)
            else:
                self.assertTrue(fits(log, paper[1]))
                self.fitting(log, paper[1], numbers)
                for one in moments:
                    for far in moments:
                        words[self.most(log, steps, one, far, numbers)] += 1
        self.assertTrue(all(many > 20 for many in words.values()), words)

    def cannot_be(self, log, steps, below):
        for ring in below[:5]:
            self.assertEqual(check_log(log, ("ring", ring)), "ring")
            self.assertEqual(check_log(log, ("ring", ring[1:] + ring[:1])), "ring")
        self.refused(BadPaper, "times", check_log, log, ("times", tuple(tuple((0, 1) for _ in row[2]) for row in log[0])))
        for total, ring in list(rings(log, steps))[:8]:
            if total >= 0:
                self.refused(BadPaper, "ring", check_log, log, ("ring", ring))
        moment = plain_moments(log)[-1]
        for call, rest in ((most_behind, ()), (most_paper, ()), (check_most, (None,))):
            self.refused(BadMoment, None, call, log, None, None, *rest)
            self.refused(BadMoment, (9, 9), call, log, moment, (9, 9), *rest)
            with self.assertRaises(NoTimes) as caught:
                call(log, moment, moment, *rest)
            self.assertEqual(check_log(log, caught.exception.paper), "ring")

    def fitting(self, log, times, numbers):
        """TIMES moved all together fit, too; with one moved alone it is told by the words of [321]."""
        moved = tuple(tuple(pair(Fraction(*time) - 100) for time in row) for row in times)
        self.assertIs(self.same(do_fit, log, moved), True)
        self.assertEqual(check_log(log, ("times", moved)), "times")
        for _ in range(4):
            player = numbers.below(len(times))
            at = numbers.below(len(times[player]))
            by = Fraction(numbers.below(9) - 4, 4)
            row = times[player][:at] + (pair(Fraction(*times[player][at]) + by),) + times[player][at + 1:]
            other = times[:player] + (row,) + times[player + 1:]
            self.assertIs(self.same(do_fit, log, other), fits(log, other))
            if not fits(log, other):
                self.refused(BadPaper, "times", check_log, log, ("times", other))
        self.refused(BadPaper, "ring", check_log, log, ("ring", tuple(plain_moments(log))))

    def most(self, log, steps, one, far, numbers):
        sums = sorted(ways(steps, one, far))
        least = self.same(most_behind, log, one, far)
        paper = self.same(most_paper, log, one, far)
        self.assertEqual(self.same(check_most, log, one, far, paper), paper[0])
        if not sums:
            self.assertIsNone(least)
            self.assertEqual(paper[0], "free")
            self.assertIn(far, paper[1])
            self.refused(BadPaper, "most", check_most, log, one, far, ("most", (one, far), log_paper(log)[1]))
            return "free"
        self.assertEqual(least, pair(sums[0][0]))
        word, way, times = paper
        self.assertEqual(word, "most")
        self.assertTrue(fits(log, times))
        self.assertEqual(Fraction(*times[far[0]][far[1]]) - Fraction(*times[one[0]][one[1]]), sums[0][0])
        self.assertEqual((way[0], way[-1]), (one, far))
        self.assertEqual(sum(steps[step] for step in zip(way, way[1:])), sums[0][0])
        total, other = sums[numbers.below(len(sums))]
        if total == sums[0][0]:
            self.assertEqual(check_most(log, one, far, ("most", other, times)), "most")
        else:
            self.refused(BadPaper, "most", check_most, log, one, far, ("most", other, times))
        self.refused(BadPaper, "free", check_most, log, one, far, ("free", (far,)))
        self.refused(BadPaper, "free", check_most, log, one, far, ("free", tuple(sorted({one, far}))))
        return "most"

    def test_great_logs(self):
        """Three players with eight readings each, against the least sums over each MOMENT in turn."""
        seen = set()
        for start in range(30):
            numbers = Numbers(start + 321)
            log = log_of(numbers, 3, 8, 12)
            steps, moments = plain_steps(log), plain_moments(log)
            sums = all_sums(steps, moments)
            can = all(sums[(one, one)] >= 0 for one in moments)
            seen.add(can)
            self.assertIs(can_be(log), can)
            paper = log_paper(log)
            self.assertEqual(check_log(log, paper), "times" if can else "ring")
            if can:
                for one in moments[::3]:
                    for far in moments:
                        total = sums[(one, far)]
                        self.assertEqual(most_behind(log, one, far), None if total is None else pair(total))
                        told = most_paper(log, one, far)
                        self.assertEqual(check_most(log, one, far, told), "free" if total is None else "most")
        self.assertEqual(seen, {True, False})

    def test_rings_that_hold_and_others(self):
        players = (((1, 1), (1, 1), ((0, 1), (10, 1))), ((1, 1), (1, 1), ((0, 1), (5, 1))))
        letters = (((0, 0), (1, 0), (3, 1), None), ((1, 1), (0, 1), (3, 1), None))
        log = (players, letters)
        ring = ((0, 0), (0, 1), (1, 1), (1, 0))
        self.assertEqual(check_log(log, ("ring", ring)), "ring")
        self.assertEqual(check_log(log, log_paper(log)), "ring")
        for bad in (ring[::-1], ring[:3], ring + ring[:1], ring * 2, list(ring), ring[:1], (), None, ((0, 0), (0, 1)), 3,
                    (ring[0], ring[1], [1, 1], ring[3]), (ring[0], (False, 1)) + ring[2:], ring[:2] + ((1, True),) + ring[3:],
                    ring[:3] + ((1, 2),), ring[:3] + (None,), ring[:3] + ((2, 0),), (ring,)):
            self.refused(BadPaper, "ring", check_log, log, ("ring", bad))
        fits_now = (players, (letters[0], ((1, 1), (0, 1), (2, 1), None)))
        self.refused(BadPaper, "ring", check_log, fits_now, ("ring", ring))
        self.assertEqual(log_paper(fits_now)[0], "times")
        # A sum of nought is not below nought; there is no freedom left.
        self.assertEqual(most_behind(fits_now, (0, 0), (1, 0)), (3, 1))
        self.assertEqual(most_behind(fits_now, (1, 0), (0, 0)), (-3, 1))
        self.assertEqual(check_most(fits_now, (0, 0), (0, 0), ("most", ring + ring[:1], log_paper(fits_now)[1])), "most")

    def test_times_of_many_kinds(self):
        times = log_paper(LOG)[1]
        first, other = times
        for bad in ODD + (times[:1], times + times[:1], list(times), (list(first), other), (first[:1], other), (first + first[:1], other),
                          (first, None), first, ((first[0], (first[1][0] * 2, first[1][1] * 2)), other)):
            self.assertIs(do_fit(LOG, bad), False, bad)
            self.refused(BadPaper, "times", check_log, LOG, ("times", bad))
            self.refused(BadPaper, "most", check_most, LOG, (0, 0), (0, 0), ("most", ((0, 0),), bad))
        for odd in NO_FRACTIONS:
            self.assertIs(do_fit(LOG, ((odd, first[1]), other)), False, odd)
        self.assertIs(do_fit(LOG, times), True)

    def test_papers_on_the_most(self):
        times = (((0, 1), (10, 1)), ((1, 1), (11, 1)))
        self.assertTrue(fits(LOG, times) is False)
        times = (((0, 1), (11, 1)), ((1, 1), (11, 1)))
        self.assertTrue(fits(LOG, times))
        way = ((0, 0), (0, 1))
        self.assertEqual(check_most(LOG, (0, 0), (0, 1), ("most", way, times)), "most")
        for bad in (way[::-1], way[:1], way[1:], (), list(way), None, way + ((1, 1),), ((0, 0), (1, 0), (0, 1)), ((0, 0), (0, 1), (0, 1)),
                    ([0, 0], (0, 1)), ((False, 0), (0, 1)), ((0, 0), (0, True)), ((0, 0), None, (0, 1)), 3, ((0, 0), (5, 5), (0, 1))):
            self.refused(BadPaper, "most", check_most, LOG, (0, 0), (0, 1), ("most", bad, times))
        for bad in ODD + ("most", ["most", way, times], ("most", way), ("most", way, times, 0), ("free",), ("free", (), ()), ["free", ()],
                          ("times", times), ("free", way, times)):
            self.refused(BadPaper, "form", check_most, LOG, (0, 0), (0, 1), bad)
        for bad in ODD + ("ring", ["ring", way], ("ring",), ("ring", way, 0), ("times",), ["times", times], ("most", way), (("ring",), 0)):
            self.refused(BadPaper, "form", check_log, LOG, bad)

    def test_papers_on_free_moments(self):
        players = tuple((ONE, ONE, ((0, 1), (1, 1))) for _ in range(3))
        log = (players, (((1, 0), (0, 0), (2, 1), None),))
        # From (0, ..) a step leads to (1, ..), none leads back; none leads to (2, ..).
        self.assertEqual(most_paper(log, (0, 0), (2, 1)), ("free", ((2, 0), (2, 1))))
        self.assertEqual(check_most(log, (0, 0), (1, 0), most_paper(log, (0, 0), (1, 0))), "most")
        self.assertEqual(check_most(log, (1, 0), (0, 1), ("free", ((0, 0), (0, 1)))), "free")
        self.assertEqual(check_most(log, (1, 0), (0, 1), ("free", ((0, 0), (0, 1), (2, 0), (2, 1)))), "free")
        for bad in (((0, 1),), ((0, 1), (0, 0)), ((0, 0), (0, 0), (0, 1)), [(0, 0), (0, 1)], ((0, 0), (0, 1), (1, 0), (1, 1)), (), None, 3,
                    ((0, 0), (0, 1), (2, 0)), ((2, 0), (2, 1)), ((0, 0), (0, 1), (3, 0)), ((0, 0), (0, 1), None),
                    ((False, 0), (0, 1)), ((0, 0), (0, True)), ([0, 0], (0, 1)), "ab"):
            self.refused(BadPaper, "free", check_most, log, (1, 0), (0, 1), ("free", bad))
        self.refused(BadPaper, "free", check_most, log, (0, 0), (1, 0), ("free", ((1, 0), (1, 1))))
        # What is not led to may be later by whatever is needed.
        far = (players, (((1, 0), (0, 0), (10 ** 9, 1), None), ((2, 0), (1, 1), (5, 1), None)))
        for one in plain_moments(far):
            for other in plain_moments(far):
                paper = most_paper(far, one, other)
                self.assertEqual(check_most(far, one, other, paper), paper[0])

    def bad(self, place, thing):
        for call, rest in ((need_log, ()), (log_moments, ()), (log_steps, ()), (do_fit, (None,)), (can_be, ()), (log_paper, ()),
                           (check_log, (None,)), (most_behind, (None, None)), (most_paper, (None, None)),
                           (check_most, (None, None, None))):
            self.refused(BadLog, place, call, thing, *rest)

    def test_no_log(self):
        for odd in ODD + ([LOG[0], ()], LOG + ((),), (LOG[0],), ((), ()), (list(LOG[0]), ()), (LOG[0] * 2, ()), (LOG[0], []),
                          (LOG[0], None), (LOG[0], LOG[1] * 6 + LOG[1][:1]), (None, ())):
            self.bad("form", odd)
        need_log((LOG[0] + (CLOCK,), LOG[1] * 6))
        for odd in ODD + (0, list(CLOCK), CLOCK[:2], CLOCK + (0,), (ONE, ONE, ()), (ONE, ONE, [ONE]), (ONE, ONE, (ONE, ONE)),
                          (ONE, ONE, ((2, 1), ONE)), (ONE, ONE, ((1, 1), (2, 1), (2, 1))), (ONE, ONE, tuple((at, 1) for at in range(9))), ((2, 1), ONE, (ONE,)), (ONE, ONE, ONE),
                          ((0, 1), ONE, (ONE,)), ((-1, 1), ONE, (ONE,)), (ONE, (1, 2), (ONE,))):
            self.bad(("player", 0), ((odd,), ()))
            self.bad(("player", 1), ((CLOCK, odd), (None,)))
        for odd in NO_FRACTIONS:
            self.bad(("player", 0), (((odd, ONE, (ONE,)),), ()))
            self.bad(("player", 0), (((ONE, odd, (ONE,)),), ()))
            self.bad(("player", 0), (((ONE, ONE, (odd,)),), ()))
            self.bad(("player", 2), ((CLOCK, CLOCK, (ONE, ONE, ((-9, 1), odd))), ()))
        need_log(((((1, 2), (1, 2), ((-9, 2), (-4, 1))),), ()))
        need_log((((ONE, ONE, tuple((at, 1) for at in range(8))),), ()))

    def test_no_letter(self):
        fine = LOG[1][0]
        start, end = fine[:2]
        for odd in ODD + (0, list(fine), fine[:3], fine + (0,), (start, (0, 1), ONE, None), (start, start, ONE, None),
                          ((0, 2), end, ONE, None), ((2, 0), end, ONE, None), ((-1, 0), end, ONE, None), ((0, -1), end, ONE, None),
                          ([0, 0], end, ONE, None), (start, [1, 0], ONE, None), ((0, 0, 0), end, ONE, None), (None, end, ONE, None),
                          (start, None, ONE, None), ((False, 0), end, ONE, None), (start, (True, 0), ONE, None), (start, (1, 5), ONE, None),
                          (start, end, (-1, 1), None), (start, end, (2, 1), ONE), (start, end, ONE, (-1, 1))):
            self.bad(("letter", 0), (LOG[0], (odd,)))
            self.bad(("letter", 1), (LOG[0], (fine, odd, odd)))
        for odd in NO_FRACTIONS:
            self.bad(("letter", 0), (LOG[0], ((start, end, odd, None),)))
            if odd is not None:
                self.bad(("letter", 0), (LOG[0], ((start, end, (0, 1), odd),)))
        need_log((LOG[0], ((start, end, (0, 1), (0, 1)), (end, start, (0, 1), None))))

    def test_no_moment(self):
        for odd in NO_INTEGERS + ((0, 2), (2, 0), (-1, 0), (0, -1), (0, 0, 0), [0, 0], (True, 0), (0, False), (0, None), (0, 10 ** 900)):
            for call, rest in ((most_behind, ()), (most_paper, ()), (check_most, (None,))):
                self.refused(BadMoment, odd, call, LOG, odd, odd, *rest)
                self.refused(BadMoment, odd, call, LOG, (0, 0), odd, *rest)
                self.refused(BadMoment, odd, call, LOG, odd, (7, 7), *rest)


if __name__ == "__main__":
    unittest.main()

"""Round tables, least means and prices of a voice that sounds again and again: [710] to [712], and tacthouse.means."""

import itertools
import unittest
from fractions import Fraction

from tacthouse.errors import BadInstrument, BadNumber, BadPaper, BadScore, BadVoice, TooMany
from tacthouse.hands import least_price
from tacthouse.means import again_price, check_mean, least_mean, mean_paper, round_table
from tests import making, plain, playing
from tests.refusing import NO_INTEGERS, ODD, Refusing
from tests.test_hands import HAND
from tests.test_units import MANY_TIMES, SCORE, TOO_MANY, VERY, A

CALLS = ((round_table, ()), (least_mean, ()), (again_price, (None,)), (mean_paper, ()), (check_mean, (None,)))


def fraction(one):
    return (one.numerator, one.denominator)


def plain_round_table(made, score, voice):
    """The ROUND TABLE, by the words of [710]."""
    sounds, moves, prices = made
    row, places = playing.notes(score, voice), range(len(made[0]))
    ticks = plain.length(score) - row[-1][2] + row[0][1]
    table = playing.table(made, row)
    found = []
    for one in places:
        line = []
        for other in places:
            costs = [prices[one][there] + table[there][other] for there in places if moves[one][there] <= ticks and table[there][other] is not None]
            line.append(min(costs, default=None))
        found.append(tuple(line))
    return tuple(found)


def means(table):
    """All ROUNDS, each with its MEAN."""
    found = {}
    for many in range(1, len(table) + 1):
        for places in itertools.permutations(range(len(table)), many):
            costs = [table[one][other] for one, other in zip(places, places[1:] + places[:1])]
            if None not in costs:
                found[places] = Fraction(sum(costs), many)
    return found


def holds(table, paper):
    """Whether a PAPER of the right shape holds, by the words of [712]."""
    edges = [(one, other) for one in range(len(table)) for other in range(len(table)) if table[one][other] is not None]
    if paper[0] == "never":
        return all(paper[1][one] < paper[1][other] for one, other in edges)
    mean, bounds = means(table).get(paper[1]), [Fraction(*bound) for bound in paper[2]]
    return mean is not None and all(table[one][other] >= mean + bounds[other] - bounds[one] for one, other in edges)


class Means(Refusing, unittest.TestCase):
    def hold(self, score, voice, made):
        paper = self.same(mean_paper, score, voice, made)
        self.assertTrue(holds(round_table(score, voice, made), paper), (score, voice, made, paper))
        self.assertEqual(self.same(check_mean, score, voice, made, paper), paper[0])
        return paper

    def refuse(self, place, score, voice, made, paper):
        self.refused(BadPaper, place, check_mean, score, voice, made, paper)

    def test_arguments(self):
        score = (("block", (((0, 1), (None, 1), (5, 1)),)),)
        self.assertEqual(round_table(score=score, voice=0, instrument=HAND), ((None, 11), (None, 6)))
        self.assertEqual(least_mean(score=score, voice=0, instrument=HAND), (6, 1))
        self.assertEqual(again_price(score=score, voice=0, instrument=HAND, times=10), 3 + 9 * 6)
        paper = mean_paper(score=score, voice=0, instrument=HAND)
        self.assertEqual(paper[:2], ("mean", (1,)))
        self.assertEqual(check_mean(score=score, voice=0, instrument=HAND, paper=paper), "mean")

    def test_against_a_plain_look(self):
        counts = {"never": 0, "mean": 0, "long": 0, "parts": 0, "none": 0}
        for start in range(400):
            numbers = making.Numbers(start + 900)
            voices = 1 + numbers.below(2)
            score = making.score(numbers, voices, 1 + numbers.below(6), 20)
            voice, places = numbers.below(voices), 1 + numbers.below(6)
            made = playing.instrument(numbers, places, pitches=range(-6, 7), slowest=3)
            if not playing.notes(score, voice):
                continue
            table = self.same(round_table, score, voice, made)
            self.assertEqual(table, plain_round_table(made, score, voice), (score, voice, made))
            found = means(table)
            told = self.same(least_mean, score, voice, made)
            self.assertEqual(told, fraction(min(found.values())) if found else None)
            paper = self.hold(score, voice, made)
            self.assertEqual(paper[0], "mean" if found else "never")
            counts[paper[0]] += 1
            if found:
                self.assertEqual(fraction(found[paper[1]]), told)
                counts["long"] += len(paper[1]) > 1
                counts["parts"] += told[1] > 1
            for times in (1, 2, 3, 7, 12):
                price = self.same(again_price, score, voice, made, times)
                self.assertEqual(price, least_price(score + (("again", len(score) - 1, times),), voice, made))
                counts["none"] += price is None
            if not found:
                self.assertIsNone(again_price(score, voice, made, 7))
        self.assertTrue(min(counts.values()) > 20, counts)

    def test_again_and_again(self):
        """The facts of [711], where another round comes in turn."""
        # From 0 to 1 and back; the same place costs more.
        made = (((0,), (0,), (0,)), ((0,) * 3,) * 3, ((9, 1, 9), (9, 9, 1), (3, 9, 9)))
        score = (("block", (((0, 1),),)),)
        self.assertEqual(least_mean(score, 0, made), (5, 3))
        self.assertEqual(self.hold(score, 0, made)[1] in ((0, 1, 2), (1, 2, 0), (2, 0, 1)), True)
        self.assertEqual([again_price(score, 0, made, times) for times in range(1, 9)], [0, 1, 2, 5, 6, 7, 10, 11])
        self.assertEqual(again_price(score, 0, made, 3 * 10 ** 29), 5 * 10 ** 29 - 3)
        self.assertEqual(again_price(score, 0, made, 3 * 10 ** 29 + 1), 5 * 10 ** 29)
        self.assertEqual(again_price(score, 0, made, 10 ** 30), 5 * (10 ** 30 - 1) // 3)
        for one, other in ((1, 1), (2, 3), (10 ** 29, 7), (3, 10 ** 29 + 5)):
            both = [again_price(score, 0, made, times) for times in (one + other, one, other)]
            self.assertGreaterEqual(both[0], both[1] + both[2])

    def test_longs_do_not_matter(self):
        """N times would be longer than a SCORE may be."""
        made = (((3, 4),), ((0,),), ((7,),))
        self.assertEqual(again_price(VERY, 0, made, 10 ** 30), 7 * (2 * MANY_TIMES * 10 ** 30 - 1))
        self.assertEqual(again_price(VERY, 1, made, 10 ** 30 - 1), 7 * (MANY_TIMES * (10 ** 30 - 1) - 1))
        self.assertEqual(least_mean(VERY, 0, made), (14 * MANY_TIMES, 1))
        self.assertEqual(self.hold(VERY, 0, made), ("mean", (0,), ((0, 1),)))
        self.assertEqual(round_table(VERY, 1, made), ((7 * MANY_TIMES,),))

    def test_ticks_over_the_end(self):
        """Those behind the last EVENT, and ahead of the first one, together."""
        for ahead, behind in ((0, 0), (0, 3), (3, 0), (2, 4), (50, 46), (96, 96)):
            rests = [((None, ahead),) if ahead else (), ((None, behind),) if behind else ()]
            score = (("block", (rests[0] + ((0, 1),) + rests[1],)),)
            for move in (ahead + behind - 1, ahead + behind, ahead + behind + 1):
                if 0 <= move <= 96:
                    made = (((0,),), ((move,),), ((5,),))
                    told = ((5,),) if move <= ahead + behind else ((None,),)
                    self.assertEqual(round_table(score, 0, made), told)
                    self.assertEqual(again_price(score, 0, made, 10 ** 30), 5 * (10 ** 30 - 1) if told[0][0] else None)
                    self.assertEqual(again_price(score, 0, made, 1), 0)
                    self.assertEqual(self.hold(score, 0, made)[0], "mean" if told[0][0] else "never")

    def test_few_times(self):
        """Where there is no ROUND, so many times can be played, and no more."""
        # From place to place it goes up alone.
        made = (((0,), (0,), (0,)), ((1, 0, 0), (1, 1, 0), (1, 1, 1)), ((0, 2, 5), (0, 0, 4), (0, 0, 0)))
        score = (("block", (((0, 1),),)),)
        self.assertEqual([again_price(score, 0, made, times) for times in (1, 2, 3, 4, 10 ** 30)], [0, 2, 6, None, None])
        self.assertIsNone(least_mean(score, 0, made))
        self.assertEqual(self.hold(score, 0, made)[0], "never")
        for ranks in ((0, 1, 2), (-5, 0, 10 ** 60)):
            self.assertEqual(check_mean(score, 0, made, ("never", ranks)), "never")
        for ranks in ((0, 0, 1), (0, 2, 1), (2, 1, 0), (0, 1, 1)):
            self.refuse("never", score, 0, made, ("never", ranks))
        for odd in ODD + NO_INTEGERS + (0, [0, 1, 2], (0, 1), (0, 1, 2, 3), (0, 1, None), (0, True, 2), (False, 1, 2), (0, 1, "2"), ((0, 1), (1, 1), (2, 1))):
            self.refuse("never", score, 0, made, ("never", odd))
        for places in ((0,), (0, 1), (0, 1, 2)):
            self.refuse("mean", score, 0, made, ("mean", places, ((0, 1),) * 3))

    def test_papers_on_means(self):
        made = (((0,), (0,), (0,)), ((0,) * 3,) * 3, ((9, 1, 9), (9, 9, 1), (3, 9, 9)))
        score = (("block", (((0, 1),),)),)
        bounds = ((0, 1), (-2, 3), (-4, 3))
        self.assertEqual(check_mean(score, 0, made, ("mean", (0, 1, 2), bounds)), "mean")
        self.assertEqual(check_mean(score, 0, made, ("mean", (2, 0, 1), ((100, 1), (298, 3), (296, 3)))), "mean")
        for wrong in (((0, 1), (-2, 3), (-3, 3)), ((0, 1), (-2, 3), (-5, 3)), ((0, 1), (0, 1), (0, 1)), ((1, 1), (-2, 3), (-4, 3)), ((0, 1), (-2, 3), (-9, 7))):
            self.refuse("mean", score, 0, made, ("mean", (0, 1, 2), wrong))
        # Rounds that are none, and some that are not the least.
        for places in ((0, 2, 1), (0,), (1,), (0, 1), (2, 0)):
            self.refuse("mean", score, 0, made, ("mean", places, bounds))
        for odd in ODD + (0, [0, 1, 2], (0, 1, 2, 0), (0, 0), (0, 1, 1), (0, 1, 3), (0, 1, -1), (0, 1, None), (False, True, 2), ((0, 1, 2),)):
            self.refuse("mean", score, 0, made, ("mean", odd, bounds))
        for odd in ODD + (0, list(bounds), bounds[:2], bounds + ((0, 1),), bounds[:2] + (-1,), bounds[:2] + ((-8, 6),), bounds[:2] + ([-4, 3],), bounds[:2] + ((4, -3),),
                          bounds[:2] + ((-4, True),), bounds[:2] + (None,), ((0, 2),) + bounds[1:], ((False, 1),) + bounds[1:]):
            self.refuse("mean", score, 0, made, ("mean", (0, 1, 2), odd))
        self.refuse("never", score, 0, made, ("never", (0, 1, 2)))
        # A lone place that does with itself.
        alone = (((0,), ()), ((0, 0), (0, 0)), ((4, 1), (1, 1)))
        self.assertEqual(self.hold(score, 0, alone)[:2], ("mean", (0,)))
        # To the other place there is no way, but one from it.
        self.assertEqual(round_table(score, 0, alone), ((4, None), (1, None)))
        self.assertEqual(check_mean(score, 0, alone, ("mean", (0,), ((0, 1), (3, 1)))), "mean")
        self.refuse("mean", score, 0, alone, ("mean", (0,), ((0, 1), (2, 1))))
        # Not twice the same place, though all integers are there.
        self.refuse("mean", score, 0, alone, ("mean", (0, 0), ((0, 1), (3, 1))))

    def test_changed_papers(self):
        kept = {True: 0, False: 0}
        for start in range(250):
            numbers = making.Numbers(start + 50)
            score = making.score(numbers, 1, 1 + numbers.below(5), 12)
            made = playing.instrument(numbers, 1 + numbers.below(4), pitches=range(-6, 7), often=6, slowest=2)
            if not playing.notes(score, 0):
                continue
            table, paper = round_table(score, 0, made), mean_paper(score, 0, made)
            for _ in range(10):
                at = numbers.below(len(table))
                if paper[0] == "never":
                    other = ("never", paper[1][:at] + (paper[1][at] + numbers.below(5) - 2,) + paper[1][at + 1:])
                else:
                    bound = Fraction(*paper[2][at]) + Fraction(numbers.below(9) - 4, 1 + numbers.below(4))
                    other = paper[:2] + (paper[2][:at] + (fraction(bound),) + paper[2][at + 1:],)
                kept[holds(table, other)] += 1
                if holds(table, other):
                    self.assertEqual(check_mean(score, 0, made, other), paper[0])
                else:
                    self.refuse(paper[0], score, 0, made, other)
        self.assertTrue(min(kept.values()) > 100, kept)

    def test_forms_of_papers(self):
        told = mean_paper(SCORE, 0, HAND)
        for odd in ODD + (("mean",), ("mean", ()), ("mean", (), (), ()), ("never",), ("never", (), ()), list(told), ("Mean",) + told[1:], (None,) + told[1:], (told,)):
            self.refuse("form", SCORE, 0, HAND, odd)

    def test_voices_without_a_pitch(self):
        score = (("block", (((None, 3),), ((0, 3),))), ("again", 0, 10 ** 12))
        for call, rest in CALLS:
            # Behind an instrument, ahead of times and of a paper.
            self.refused(BadInstrument, "form", call, score, 0, None, *rest)
            self.refused(BadVoice, 0, call, score, 0, HAND, *rest)
        self.assertEqual(least_mean(score, 1, HAND), (10 ** 12, 1))

    def test_errors(self):
        for call, rest in CALLS:
            self.refused(BadScore, None, call, None, None, None, *rest)
            self.refused(BadScore, 1, call, (A, None), None, None, *rest)
            self.refused(TooMany, 200, call, TOO_MANY, None, None, *rest)
            for odd in NO_INTEGERS + (-1, 1, 10 ** 900):
                self.refused(BadVoice, odd, call, SCORE, odd, None, *rest)
            for made, place in playing.no_instruments():
                self.refused(BadInstrument, place, call, SCORE, 0, made, *rest)
        for odd in NO_INTEGERS + (0, -1, 10 ** 30 + 1, 10 ** 900):
            self.refused(BadNumber, odd, again_price, SCORE, 0, HAND, odd)


if __name__ == "__main__":
    unittest.main()

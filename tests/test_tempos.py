"""Tempos: [1], [300] to [303], and tacthouse.tempos."""

import unittest
from fractions import Fraction

from tacthouse.errors import BadFraction, BadPaper, BadTempo, TooMany
from tacthouse.tempos import (ahead_paper, check_ahead, is_never_ahead, need_tempo, plain_tempo, tempo_at, tempo_back,
                              tempo_behind)
from tests.making import Numbers
from tests.refusing import NO_INTEGERS, ODD, Refusing

STEADY = ((None, (1, 1)),)
NO_FRACTIONS = NO_INTEGERS + (0, 1, (1,), (1, 2, 3), [1, 2], (2, 4), (0, 2), (1, 0), (1, -1), (0, 0), (True, 1), (1, True),
                              (1, None), ("1", 1), (-2, 4), (None, 1), (10 ** 60, 10 ** 59))


def pair(fraction):
    return (fraction.numerator, fraction.denominator)


def worth(tempo, x):
    """What a TEMPO has AT x, with Fractions, by the words of [301]."""
    total = Fraction(0)
    for long, rate in tempo:
        reach = x if long is None else min(x, Fraction(*long))
        total += Fraction(*rate) * reach
        x -= reach
    return total


def bends(tempo):
    total, found = Fraction(0), []
    for long, _ in tempo[:-1]:
        total += Fraction(*long)
        found.append(total)
    return found


def tempo_of(numbers, pairs, greatest=6):
    """A TEMPO of so many pairs, with few unlike rates, so that neighbours are often the same."""
    made = []
    for at in range(pairs):
        rate = pair(Fraction(1 + numbers.below(3), 1 + numbers.below(3)))
        long = pair(Fraction(1 + numbers.below(greatest), 1 + numbers.below(4)))
        made.append((None if at == pairs - 1 else long, rate))
    return tuple(made)


def places(*tempos):
    """Where something may be seen: the bends, between and behind them."""
    found = sorted({Fraction(0)} | {bend for tempo in tempos for bend in bends(tempo)})
    found += [(one + other) / 2 for one, other in zip(found, found[1:])]
    return found + [max(found) + far for far in (Fraction(1, 7), 5, 1000)]


def is_plain(tempo):
    return all(one[1] != other[1] for one, other in zip(tempo, tempo[1:]))


class Tempos(Refusing, unittest.TestCase):
    def test_arguments(self):
        other = (((2, 1), (1, 3)), (None, (2, 1)))
        self.assertIs(need_tempo(thing=other), other)
        self.assertEqual(tempo_at(tempo=other, x=(3, 1)), (8, 3))
        self.assertEqual(plain_tempo(tempo=other), other)
        self.assertEqual(tempo_behind(tempo=other, other=STEADY), other)
        self.assertEqual(tempo_back(tempo=other), (((2, 3), (3, 1)), (None, (1, 2))))
        self.assertIs(is_never_ahead(tempo=STEADY, other=other), False)
        self.assertEqual(ahead_paper(tempo=STEADY, other=STEADY), ("never",))
        self.assertEqual(check_ahead(tempo=STEADY, other=STEADY, paper=("never",)), "never")

    def test_behind_is_the_other_one_at_the_first_one(self):
        double, shift = ((None, (2, 1)),), (((2, 1), (1, 1)), (None, (5, 1)))
        # AT 2 the first one has 4, and AT 4 the other one has 2 + 10.
        self.assertEqual(tempo_behind(double, shift), (((1, 1), (2, 1)), (None, (10, 1))))
        self.assertEqual(tempo_behind(shift, double), (((2, 1), (2, 1)), (None, (10, 1))))

    def test_against_the_plain_reading(self):
        for start in range(150):
            numbers = Numbers(start)
            tempo, other, third = [tempo_of(numbers, 1 + numbers.below(6)) for _ in range(3)]
            for x in places(tempo):
                self.assertEqual(self.same(tempo_at, tempo, pair(x)), pair(worth(tempo, x)))
            plain, back = self.same(plain_tempo, tempo), self.same(tempo_back, tempo)
            behind = self.same(tempo_behind, tempo, other)
            for made in (plain, back, behind):
                self.assertTrue(is_plain(made))
                self.assertIs(need_tempo(made), made)
            for x in places(tempo, plain, behind):
                self.assertEqual(worth(plain, x), worth(tempo, x))
                self.assertEqual(worth(back, worth(tempo, x)), x)
                self.assertEqual(worth(behind, x), worth(other, worth(tempo, x)))
            for x in places(back):
                self.assertEqual(worth(tempo, worth(back, x)), x)
            self.assertLessEqual(len(behind), len(plain) + len(plain_tempo(other)) - 1)
            self.assertEqual(tempo_behind(tempo, back), STEADY)
            self.assertEqual(tempo_behind(back, tempo), STEADY)
            self.assertEqual(tempo_behind(behind, third), tempo_behind(tempo, tempo_behind(other, third)))
            self.ahead(tempo, other)
            self.ahead(other, tempo)
            self.ahead(tempo, plain)

    def ahead(self, tempo, other):
        """Whether one is ahead, by all bends and what is far behind them."""
        far = max(bends(tempo) + bends(other) + [Fraction(0)]) + 10 ** 6
        true = not any(worth(tempo, x) > worth(other, x) for x in places(tempo, other) + [far])
        self.assertIs(self.same(is_never_ahead, tempo, other), true)
        paper = self.same(ahead_paper, tempo, other)
        self.assertEqual(paper[0], "never" if true else "ahead")
        self.assertEqual(self.same(check_ahead, tempo, other, paper), paper[0])
        if true:
            self.assertEqual(paper, ("never",))
        else:
            self.assertGreater(worth(tempo, Fraction(*paper[1])), worth(other, Fraction(*paper[1])))
            self.refused(BadPaper, "never", check_ahead, tempo, other, ("never",))
        for x in places(tempo, other):
            if worth(tempo, x) > worth(other, x):
                self.assertEqual(check_ahead(tempo, other, ("ahead", pair(x))), "ahead")
            else:
                self.refused(BadPaper, "ahead", check_ahead, tempo, other, ("ahead", pair(x)))

    def test_never_ahead(self):
        slow, fast = ((None, (1, 2)),), ((None, (2, 1)),)
        self.assertEqual((is_never_ahead(slow, fast), is_never_ahead(fast, slow), is_never_ahead(slow, slow)), (True, False, True))
        # It comes up only far behind the last bend.
        late = (((10 ** 9, 1), (1, 2)), (None, (10 ** 9 + 1, 10 ** 9)))
        self.assertIs(is_never_ahead(late, STEADY), False)
        self.assertEqual(check_ahead(late, STEADY, ahead_paper(late, STEADY)), "ahead")
        self.refused(BadPaper, "ahead", check_ahead, late, STEADY, ("ahead", (10 ** 18 // 2 + 10 ** 9, 1)))
        # Both meet, and go on alike.
        meets = (((1, 1), (1, 2)), ((1, 1), (3, 2)), (None, (1, 1)))
        self.assertIs(is_never_ahead(meets, STEADY), True)
        over = (((1, 1), (1, 2)), ((1, 1), (3, 2)), ((1, 1), (2, 1)), (None, (1, 2)))
        self.assertEqual(ahead_paper(over, STEADY)[0], "ahead")

    def test_neighbours_with_one_rate(self):
        many = tuple(((1, at), (2, 3)) for at in range(1, 40)) + ((None, (2, 3)),)
        self.assertEqual(plain_tempo(many), ((None, (2, 3)),))
        self.assertEqual(plain_tempo(many[:3] + (((1, 1), (1, 1)),) + many[3:5] + ((None, (2, 1)),)),
                         (((11, 6), (2, 3)), ((1, 1), (1, 1)), ((9, 20), (2, 3)), (None, (2, 1))))
        self.assertEqual(tempo_behind(many, ((None, (3, 2)),)), STEADY)

    def test_forty_pairs(self):
        def comb(long, rates, pairs):
            return tuple((long, rates[at % 2]) for at in range(pairs - 1)) + ((None, rates[(pairs - 1) % 2]),)

        forty = comb((5, 1), ((1, 1), (2, 1)), 40)
        self.assertIs(need_tempo(forty), forty)
        self.assertEqual(plain_tempo(forty), forty)
        self.assertEqual(len(tempo_back(forty)), 40)
        self.assertEqual(tempo_behind(forty, tempo_back(forty)), STEADY)
        twenty, other = comb((3, 1), ((1, 1), (2, 1)), 20), comb((701, 100), ((3, 1), (5, 1)), 21)
        self.assertEqual(len(tempo_behind(twenty, other)), 40)
        self.refused(TooMany, 40, tempo_behind, twenty, comb((701, 100), ((3, 1), (5, 1)), 22))
        # A steady one adds no pair, one with a bend of its own does.
        self.assertEqual(len(tempo_behind(forty, ((None, (7, 1)),))), 40)
        self.refused(TooMany, 40, tempo_behind, forty, (((1, 1), (1, 1)), (None, (3, 1))))
        self.refused(BadTempo, "form", need_tempo, forty[:1] + forty)
        great = ((10 ** 59 + 1, 10 ** 58 + 3), (10 ** 58 + 7, 10 ** 59 + 9))
        long = (great, (great[1], great[0]), (None, great[0]))
        self.assertEqual(tempo_behind(long, tempo_back(long)), STEADY)
        x = (7 * 10 ** 58 + 1, 10 ** 57 + 1)
        self.assertEqual(tempo_at(long, x), pair(worth(long, Fraction(*x))))

    def test_no_tempo(self):
        fine = (((1, 1), (2, 3)), (None, (1, 1)))
        bad = [(odd, "form") for odd in (None, True, 0, "", (), [], {}, "ab", list(fine), object(), fine * 21)]
        bad += [((odd,), 0) for odd in ODD + (0, (1, 1), (None, (1, 1), 1), [None, (1, 1)], (None, 1), ((1, 1), (1, 1)))]
        bad += [(fine[:1] + (odd,), 1) for odd in ODD + (0, (None,), ((1, 1), (1, 1)), [None, (1, 1)])]
        bad += [(((long, (1, 1)), fine[1]), 0) for long in NO_FRACTIONS + ((0, 1), (-1, 1))]
        bad += [(((None, rate),), 0) for rate in NO_FRACTIONS + ((0, 1), (-1, 1))]
        bad += [((((1, 1), rate), fine[1]), 0) for rate in NO_FRACTIONS + ((0, 1), (-1, 2))]
        bad += [((fine[0], (None, (1, 1)), fine[1]), 1), ((fine[0], fine[0], fine[0]), 2), ((fine[0], fine[0], 3, None), 2)]
        for thing, place in bad:
            for call, rest in ((need_tempo, ()), (plain_tempo, ()), (tempo_back, ()), (tempo_at, (None,)), (tempo_behind, (None,)),
                               (is_never_ahead, (None,)), (ahead_paper, (None,)), (check_ahead, (None, None))):
                self.refused(BadTempo, place, call, thing, *rest)
            for call, rest in ((tempo_behind, ()), (is_never_ahead, ()), (ahead_paper, ()), (check_ahead, (None,))):
                self.refused(BadTempo, place, call, fine, thing, *rest)

    def test_bad_places_and_papers(self):
        for odd in NO_FRACTIONS + ((-1, 1), (-1, 2)):
            self.refused(BadFraction, odd, tempo_at, STEADY, odd)
            self.refused(BadPaper, "ahead", check_ahead, ((None, (2, 1)),), STEADY, ("ahead", odd))
        self.assertEqual(tempo_at(STEADY, (0, 1)), (0, 1))
        self.refused(BadPaper, "ahead", check_ahead, ((None, (2, 1)),), STEADY, ("ahead", (0, 1)))
        self.assertEqual(check_ahead(((None, (2, 1)),), STEADY, ("ahead", (1, 10 ** 59))), "ahead")
        for odd in ODD + ("never", ["never"], ("never", 0), ("ahead",), ("ahead", (1, 1), 0), ["ahead", (1, 1)], (("never",),)):
            self.refused(BadPaper, "form", check_ahead, STEADY, STEADY, odd)


if __name__ == "__main__":
    unittest.main()

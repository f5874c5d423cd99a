"""Ratios, scales and papers on what evens them out: [600], [601], and tacthouse.scales."""

import itertools
import unittest
from fractions import Fraction
from math import gcd

from tacthouse.errors import BadPaper, BadRatio, BadScale
from tacthouse.scales import check_scale, evens_out, is_scale, least_steps, scale_paper, steps_of
from tacthouse.vectors import across, all_shortened, shortened, split_by, worth
from tests import making
from tests.refusing import NO_INTEGERS, ODD, Refusing

THREE = ((-4, 4, -1, 0), (7, 0, -3, 0), (-5, 2, 2, -1))
FIFTH, OCTAVE = (-1, 1, 0, 0), (1, 0, 0, 0)
TWELVE = (12, 19, 28, 34)


def plain_least(ratios, most, width):
    """The least number of steps of any scale with numbers of at most width, trying all of them."""
    for steps in range(1, most + 1):
        for rest in itertools.product(range(-width, width + 1), repeat=3):
            if all(sum(a * b for a, b in zip((steps,) + rest, ratio)) == 0 for ratio in ratios):
                return steps
    return None


def holds(ratios, paper):
    """Whether a PAPER holds, by the words of [601]."""
    if paper[0] == "none":
        _, weights, number = paper
        return number != 0 and [sum(w * r[at] for w, r in zip(weights, ratios)) for at in range(4)] == [number, 0, 0, 0]
    _, steps, scale, own, weights = paper
    if scale[0] != steps or any(sum(a * b for a, b in zip(scale, ratio)) for ratio in ratios):
        return False
    left = [Fraction(at == 0) - sum(Fraction(*w) * r[at] for w, r in zip(weights, ratios)) for at in range(4)]
    return left == [steps * part for part in own]


def some_ratios(numbers, widest):
    rows = [tuple(numbers.below(2 * widest + 1) - widest for _ in range(4)) for _ in range(numbers.below(5))]
    if len(rows) > 2 and numbers.below(3) == 0:
        rows[1] = tuple(max(-20, min(20, left - right)) for left, right in zip(rows[0], rows[2]))
    if rows and numbers.below(4) == 0:
        rows[0] = (rows[0][0], 0, 0, 0)
    return tuple(rows)


class Scales(Refusing, unittest.TestCase):
    def hold(self, ratios):
        """The paper that is told holds; it."""
        paper = self.same(scale_paper, ratios)
        self.assertTrue(holds(ratios, paper), (ratios, paper))
        self.assertEqual(self.same(check_scale, ratios, paper), paper[0])
        return paper

    def refuse(self, place, ratios, paper):
        self.refused(BadPaper, place, check_scale, ratios, paper)

    def test_arguments(self):
        self.assertIs(is_scale(thing=TWELVE), True)
        self.assertEqual(steps_of(scale=TWELVE, ratio=FIFTH), 7)
        self.assertIs(evens_out(scale=TWELVE, ratios=THREE), True)
        self.assertEqual(least_steps(ratios=THREE), 12)
        self.assertEqual(check_scale(ratios=THREE, paper=scale_paper(ratios=THREE)), "every")

    def test_examples(self):
        self.assertEqual((least_steps(THREE), steps_of((53, 84, 123, 149), FIFTH)), (12, 31))
        self.assertIsNone(least_steps((OCTAVE,)))
        self.assertEqual(least_steps(()), 1)
        self.assertEqual(scale_paper(())[:2], ("every", 1))
        self.assertEqual(self.hold(THREE)[2][0], 12)

    def test_scales(self):
        for thing in (TWELVE, (1, 0, 0, 0), (10 ** 9, -10 ** 9, 10 ** 9, 0), (1, -1, -1, -1)):
            self.assertIs(is_scale(thing), True)
        for odd in ODD + NO_INTEGERS + (list(TWELVE), TWELVE[:3], TWELVE + (0,), (0, 1, 1, 1), (-1, 1, 1, 1), (10 ** 9 + 1, 0, 0, 0), (1, 10 ** 9 + 1, 0, 0),
                                        (1, 0, 0, -10 ** 9 - 1), (True, 0, 0, 0), (1, False, 0, 0), (1, None, 0, 0), (1, 0, "0", 0), (1, 0, 0, (0,)), 12):
            self.assertIs(is_scale(odd), False)
            self.refused(BadScale, odd, steps_of, odd, None)
            self.refused(BadScale, odd, evens_out, odd, None)

    def test_what_a_scale_gives(self):
        for start in range(200):
            numbers = making.Numbers(start)
            scale = (1 + numbers.below(100),) + tuple(numbers.below(401) - 200 for _ in range(3))
            ratio = tuple(numbers.below(41) - 20 for _ in range(4))
            told = sum(a * b for a, b in zip(scale, ratio))
            self.assertEqual(self.same(steps_of, scale, ratio), told)
            self.assertIs(self.same(evens_out, scale, (ratio,)), told == 0)
        self.assertIs(evens_out((5, 8, 12, 14), THREE), False)
        self.assertIs(evens_out((12, 19, 28, 33), THREE), False)
        self.assertIs(evens_out((24, 38, 56, 68), THREE), True)
        self.assertIs(evens_out((3, 1, 4, 1), ()), True)
        self.assertEqual(steps_of((10 ** 9, -10 ** 9, 10 ** 9, -10 ** 9), (20, -20, 20, -20)), 80 * 10 ** 9)

    def test_least_steps_against_a_plain_search(self):
        seen = {}
        for start in range(300):
            numbers = making.Numbers(start + 5)
            ratios = some_ratios(numbers, 1 + numbers.below(2))
            told, found = self.same(least_steps, ratios), plain_least(ratios, 3, 6)
            if found is not None:
                self.assertEqual(told, found, ratios)
            else:
                self.assertTrue(told is None or told > 3 or max(abs(part) for part in scale_paper(ratios)[2]) > 6, ratios)
            seen[told] = seen.get(told, 0) + 1
        self.assertTrue(min(seen.get(key, 0) for key in (None, 1, 2, 3)) > 2, seen)

    def test_papers_that_are_told(self):
        seen = {}
        for start in range(1500):
            numbers = making.Numbers(start + 300)
            ratios = some_ratios(numbers, numbers.one_of((1, 2, 3, 7, 20)))
            paper = self.hold(ratios)
            self.assertEqual(least_steps(ratios), None if paper[0] == "none" else paper[1])
            key = (paper[0], len(ratios))
            seen[key] = seen.get(key, 0) + 1
            if paper[0] == "every":
                self.assertTrue(is_scale(paper[2]))
                self.assertIs(evens_out(paper[2], ratios), True)
                # One with fewer steps, or with a number of them that is no multiple, evens nothing out.
                for other in (paper[1] - 1, paper[1] + 1):
                    if other % paper[1]:
                        self.refuse("scale" if other > 0 else "number", ratios, ("every", other) + paper[2:])
        self.assertTrue(min(seen[key] for key in [("every", many) for many in range(5)] + [("none", many) for many in range(1, 5)]) > 30, seen)

    def test_great_numbers(self):
        wide = ((20, -19, 17, 13), (-20, 20, 19, -17), (19, 18, -20, 20))
        paper = self.hold(wide)
        self.assertEqual(paper[0], "every")
        self.assertGreater(paper[1], 1000)
        self.assertEqual(self.hold(wide + ((20, 20, 20, 19),))[0], "none")
        # The same ones again, and ones that tell nothing.
        self.assertEqual(least_steps(wide[:1] * 4), least_steps(wide[:1]))
        self.assertEqual(least_steps(((0, 0, 0, 0),) * 4), 1)
        self.assertEqual(least_steps(((20, 19, 0, 0),)), 19)
        self.assertEqual(least_steps(((20, 15, 10, 0),)), 1)
        self.assertEqual(least_steps(((20, 15, 0, 0),)), 3)
        self.assertEqual(least_steps(((1, -20, 0, 0), (0, 1, -20, 0), (0, 0, 1, -20))), 8000)
        self.assertEqual(least_steps(((1, 5, 0, 0), (2, 10, 0, 0), (-3, -15, 0, 0))), 5)
        self.assertIsNone(least_steps(((1, 5, 0, 0), (2, 5, 0, 0))))
        self.assertIsNone(least_steps(((3, 5, 0, 0), (0, 2, 0, 0), (0, 0, 0, 1), (0, 0, 1, 0))))

    def test_short_vectors(self):
        """So that what is told has small numbers: none is made shorter by another one alone, and they span the same."""
        for start in range(300):
            numbers = making.Numbers(start + 19)
            rows = [tuple(numbers.below(2001) - 1000 for _ in range(4)) for _ in range(1 + numbers.below(3))]
            if len(rows) == 3 and across(rows) == (0, 0, 0, 0):
                continue
            short = all_shortened(rows)
            self.assertEqual(len(short), len(rows))
            for at, one in enumerate(short):
                self.not_shorter(one, short[:at] + short[at + 1:])
            self.not_shorter(shortened((10 ** 6, -10 ** 5, 7, 10 ** 4), short), short)
            if len(rows) == 3:
                self.assertIn(across(short), (across(rows), tuple(-part for part in across(rows))))
            self.assertLessEqual(max(worth(one, one) for one in short), max(worth(one, one) for one in rows))
            # Worth 0 by a form all but one, which is worth the greatest common divisor.
            form = tuple(numbers.below(9) - 4 for _ in range(4))
            one, others = split_by(rows, form)
            self.assertEqual([worth(other, form) for other in others], [0] * len(others))
            self.assertEqual(0 if one is None else abs(worth(one, form)), gcd(*[worth(row, form) for row in rows]))

    def not_shorter(self, one, others):
        for other in others:
            for sign in (1, -1):
                trial = [left + sign * right for left, right in zip(one, other)]
                self.assertGreaterEqual(worth(trial, trial), worth(one, one))

    def test_numbers_that_are_told_are_small(self):
        for ratios in (((-19, 1, 18, 14), (-4, -16, -17, 17)), ((-17, 18, 6, 0), (20, 6, 20, -3)), ((-17, 20, 4, 8), (-14, 12, -7, -15)), ((-19, -7, 13, -1),), ()):
            self.assertLess(max(abs(part) for part in self.hold(ratios)[2]), 130)

    def test_wrong_papers_on_none(self):
        ratios = (OCTAVE, FIFTH)
        for paper in (("none", (1, 0), 1), ("none", (-3, 0), -3), ("none", (10 ** 60, 0), 10 ** 60)):
            self.assertEqual(check_scale(ratios, paper), "none")
        for odd in NO_INTEGERS + (0, (1,), (1, 0, 0), [1, 0], (1, None), (True, 0), (1, False), (1, "0"), ((1, 1), (0, 1))):
            self.refuse("weights", ratios, ("none", odd, None))
        for paper in (("none", (1, 0), 0), ("none", (0, 0), 0), ("none", (1, 0), 2), ("none", (1, 1), 0), ("none", (1, 1), 1), ("none", (0, 1), -1), ("none", (1, 0), True),
                      ("none", (1, 0), None), ("none", (1, 0), (1, 1)), ("none", (1, 0), "1"), ("none", (0, 0), 1), ("none", (2, 1), 1)):
            self.refuse("sum", ratios, paper)
        self.refuse("sum", (), ("none", (), 1))
        self.refuse("sum", (), ("none", (), 0))
        self.refuse("weights", (), ("none", (0,), 1))

    def test_wrong_papers_on_every(self):
        _, steps, scale, own, weights = self.hold(THREE)
        for odd in NO_INTEGERS + (0, -1, -12):
            self.refuse("number", THREE, ("every", odd, None, None, None))
        for odd in ODD + (12, list(scale), scale[:3], scale + (0,), (24, 38, 56, 68), (12, 19, 28, 33), (-12, -19, -28, -34), (12, 0, 0, 0), (True, 0, 0, 0)):
            self.refuse("scale", THREE, ("every", 12, odd, None, None))
        self.refuse("scale", (), ("every", 10 ** 9 + 1, (10 ** 9 + 1, 0, 0, 0), None, None))
        for odd in NO_INTEGERS + (0, list(own), own[:3], own + (0,), (None,) + own[1:], own[:3] + (True,), own[:3] + ("0",)):
            self.refuse("own", THREE, ("every", 12, scale, odd, None))
        self.refuse("weights", THREE, ("every", 12, scale, own[:3] + (own[3] + 1,), weights))
        for at in range(3):
            top, bottom = weights[at]
            for odd in NO_INTEGERS + (top, [top, bottom], (top + bottom, bottom), (2 * top + 2, 2), (top, -bottom), (top, 0), (True, 1), (0, 2), (top, bottom, 1)):
                if odd != weights[at]:
                    self.refuse("weights", THREE, ("every", 12, scale, own, weights[:at] + (odd,) + weights[at + 1:]))
        for odd in (list(weights), weights[:2], weights + ((0, 1),), None, (), 0):
            self.refuse("weights", THREE, ("every", 12, scale, own, odd))
        # More steps than wanted: there is such a scale, but no weights.
        self.refuse("weights", THREE, ("every", 24, (24, 38, 56, 68), own, weights))
        self.refuse("weights", (), ("every", 2, (2, 0, 0, 0), (1, 0, 0, 0), ()))
        self.assertEqual(check_scale((), ("every", 1, (1, 7, -8, 9), (1, 0, 0, 0), ())), "every")
        # Other weights and others of their own, where some hold.
        ratio = (2, -1, 0, 0)
        self.assertEqual(check_scale((ratio,), ("every", 1, (1, 2, 5, 5), (1, 0, 0, 0), ((0, 1),))), "every")
        self.assertEqual(check_scale((ratio,), ("every", 1, (1, 2, 0, 0), (-1, 1, 0, 0), ((1, 1),))), "every")
        self.refuse("weights", (ratio,), ("every", 2, (2, 4, 0, 0), (0, 0, 0, 0), ((1, 2),)))
        self.assertEqual(check_scale(((2, 3, 0, 0),), ("every", 3, (3, -2, 0, 0), (1, 1, 0, 0), ((-1, 1),))), "every")
        self.assertEqual(check_scale(((2, 3, 0, 0),), ("every", 3, (3, -2, 0, 0), (-1, -2, 0, 0), ((2, 1),))), "every")
        self.assertEqual(check_scale(((4, 6, 0, 0),), ("every", 3, (3, -2, 0, 0), (1, 1, 0, 0), ((-1, 2),))), "every")

    def test_forms_of_papers(self):
        told = scale_paper(THREE)
        for odd in ODD + (("none",), ("none", (1,)), ("none", (1,), 1, 1), ("every",), told[:4], told + (0,), list(told), ("Every",) + told[1:], ("none",) + told[1:]):
            self.refuse("form", THREE, odd)

    def test_errors(self):
        for odd in ODD + NO_INTEGERS + (list(FIFTH), FIFTH[:3], FIFTH + (0,), (21, 0, 0, 0), (0, 0, 0, -21), (True, 0, 0, 0), (0, None, 0, 0), (0, "0", 0, 0), 3, (FIFTH,)):
            self.refused(BadRatio, odd, steps_of, TWELVE, odd)
            if odd not in ((), (FIFTH,)):
                for call, rest in ((least_steps, ()), (scale_paper, ()), (check_scale, (None,))):
                    self.refused(BadRatio, odd, call, odd, *rest)
                self.refused(BadRatio, odd, evens_out, TWELVE, odd)
            for call, rest in ((least_steps, ()), (scale_paper, ()), (check_scale, (None,))):
                self.refused(BadRatio, (FIFTH, odd), call, (FIFTH, odd), *rest)
        for odd in (list(THREE), THREE + THREE[:2], THREE * 2):
            self.refused(BadRatio, odd, least_steps, odd)
            self.refused(BadRatio, odd, evens_out, TWELVE, odd)
            self.refused(BadRatio, odd, check_scale, odd, ("none", (), 1))


if __name__ == "__main__":
    unittest.main()

"""Rhythms on rings: [200] to [202], and tacthouse.rings."""

import unittest
from itertools import combinations

from tacthouse.errors import BadNumber, BadPaper, BadRing
from tacthouse.rings import (check_even, content_of, even_paper, even_rhythm, form_of, gaps_of, is_even, is_rhythm, left_of,
                             mirrored, period_of, turned)
from tests.refusing import NO_INTEGERS, ODD, Refusing

BAD = ODD + ((0, (0,)), (97, (0,)), (8, ()), (8, (8,)), (8, (-1,)), (8, (1, 0)), (8, (1, 1)), (8, [0]), [8, (0,)], (True, (0,)),
             (8, (False,)), (8, (0, True)), (8, (0,), 0), (8,), (None, (0,)), ("8", (0,)), (8, "0"), (8, None), (8, ("0",)),
             (8, 0), ((8, (0,)),), (8, ((0,),)), (-8, (0,)), (10 ** 900, (0,)), (8, (10 ** 900,)))


def rhythms(most):
    for beats in range(1, most + 1):
        for many in range(1, beats + 1):
            for strokes in combinations(range(beats), many):
                yield (beats, strokes)


def turns(row):
    return [row[at:] + row[:at] for at in range(len(row))]


class Rings(Refusing, unittest.TestCase):
    def test_arguments(self):
        rhythm = (8, (0, 3, 6))
        self.assertEqual(turned(rhythm=rhythm, number=3), turned(rhythm, 3))
        self.assertEqual(even_rhythm(beats=8, strokes=3), (8, (0, 2, 5)))
        self.assertTrue(is_rhythm(thing=rhythm))
        self.assertEqual(check_even(rhythm=rhythm, paper=("even", 2)), "even")
        for call in (mirrored, left_of, gaps_of, form_of, content_of, period_of, is_even, even_paper):
            self.assertEqual(call(rhythm=rhythm), call(rhythm))

    def test_told_values(self):
        rhythm = (8, (0, 3, 6))
        self.assertEqual(turned(rhythm, 3), (8, (1, 3, 6)))
        self.assertEqual(turned(rhythm, -1), (8, (2, 5, 7)))
        self.assertEqual(turned(rhythm, 8 * 10 ** 998 + 3), (8, (1, 3, 6)))
        self.assertEqual(turned(rhythm, -8 * 10 ** 998), rhythm)
        self.assertEqual(mirrored(rhythm), (8, (0, 2, 5)))
        self.assertEqual(left_of(rhythm), (8, (1, 2, 4, 5, 7)))
        self.assertIsNone(left_of((3, (0, 1, 2))))
        self.assertEqual((gaps_of(rhythm), form_of(rhythm)), ((3, 3, 2), (2, 3, 3)))
        self.assertEqual((gaps_of((7, (5,))), form_of((7, (5,))), content_of((7, (5,)))), ((7,), (7,), (0,) * 6))
        self.assertEqual(content_of(rhythm), (0, 1, 2, 0, 2, 1, 0))
        self.assertEqual(content_of((1, (0,))), ())
        self.assertEqual([period_of(one) for one in (rhythm, (8, (1, 5)), (8, tuple(range(8))), (1, (0,)), (96, (95,)))],
                         [8, 4, 1, 1, 96])

    def test_small_rings(self):
        by_form = {}
        for rhythm in rhythms(8):
            beats, strokes = rhythm
            self.assertTrue(is_rhythm(rhythm))
            same = [tuple(sorted((stroke + number) % beats for stroke in strokes)) for number in range(2 * beats + 1)]
            for number in range(-beats, beats + 1):
                self.assertEqual(turned(rhythm, number), (beats, same[number % beats]))
            self.assertEqual(self.same(mirrored, rhythm), (beats, tuple(sorted((beats - stroke) % beats for stroke in strokes))))
            others = tuple(sorted(set(range(beats)) - set(strokes)))
            self.assertEqual(self.same(left_of, rhythm), (beats, others) if others else None)
            gaps = tuple(next(far for far in range(1, beats + 1) if (stroke + far) % beats in strokes) for stroke in strokes)
            self.assertEqual(self.same(gaps_of, rhythm), gaps)
            self.assertEqual(self.same(form_of, rhythm), min(turns(gaps)))
            self.assertEqual(self.same(period_of, rhythm), next(k for k in range(1, beats + 1) if same[k] == strokes))
            content = tuple(sum((y - x) % beats == k for x in strokes for y in strokes) for k in range(1, beats))
            self.assertEqual(self.same(content_of, rhythm), content)
            if others:
                self.assertEqual(content_of((beats, others)), tuple(one + beats - 2 * len(strokes) for one in content))
            by_form.setdefault((beats, form_of(rhythm)), set()).update({strokes})
            self.assertEqual(self.same(is_even, rhythm), self.plainly_even(gaps))
            self.even_papers(rhythm, gaps, same[:beats])
        for (beats, _), found in by_form.items():
            first = min(found)
            self.assertEqual(found, {turned((beats, first), number)[1] for number in range(beats)})

    def plainly_even(self, gaps):
        sums = [[sum(row[:many]) for row in turns(gaps)] for many in range(1, len(gaps) + 1)]
        return all(max(row) - min(row) <= 1 for row in sums)

    def even_papers(self, rhythm, gaps, same):
        beats, strokes = rhythm
        paper = self.same(even_paper, rhythm)
        self.assertEqual(self.same(check_even, rhythm, paper), paper[0])
        first = tuple(at * beats // len(strokes) for at in range(len(strokes)))
        least = same.index(first) if first in same else None
        self.assertEqual(paper[0] == "even", least is not None)
        for number in range(-1, beats + 2):
            if number == least:
                self.assertEqual(check_even(rhythm, ("even", number)), "even")
            else:
                self.refused(BadPaper, "turn", check_even, rhythm, ("even", number))
        for many in range(1, min(4, len(gaps) + 1)):
            sums = [sum(row[:many]) for row in turns(gaps)]
            for one in range(len(gaps)):
                other = (one * 3 + many) % len(gaps)
                if sums[one] - sums[other] >= 2:
                    self.assertEqual(check_even(rhythm, ("uneven", many, one, other)), "uneven")
                else:
                    self.refused(BadPaper, "stretches", check_even, rhythm, ("uneven", many, one, other))

    def test_even_rhythms(self):
        for beats in (1, 2, 7, 12, 30, 95, 96):
            for strokes in range(1, beats + 1):
                rhythm = even_rhythm(beats, strokes)
                self.assertEqual(rhythm, (beats, tuple(at * beats // strokes for at in range(strokes))))
                self.assertTrue(is_even(rhythm))
                self.assertEqual(even_paper(rhythm), ("even", 0))
                self.assertTrue(is_even(mirrored(rhythm)))
        rough = (96, tuple(range(48)))
        self.assertFalse(is_even(rough))
        self.assertEqual(check_even(rough, even_paper(rough)), "uneven")
        self.assertEqual(check_even(rough, ("uneven", 1, 47, 0)), "uneven")
        self.refused(BadPaper, "stretches", check_even, rough, ("uneven", 48, 0, 1))

    def test_no_rhythm(self):
        for bad in BAD:
            self.assertIs(is_rhythm(bad), False, bad)
            for call in (mirrored, left_of, gaps_of, form_of, content_of, period_of, is_even, even_paper):
                self.refused(BadRing, bad, call, bad)
            self.refused(BadRing, bad, turned, bad, None)
            self.refused(BadRing, bad, check_even, bad, None)
        for good in ((96, (0, 95)), (1, (0,)), (96, tuple(range(96)))):
            self.assertIs(is_rhythm(good), True)

    def test_bad_numbers(self):
        for odd in NO_INTEGERS:
            self.refused(BadNumber, odd, turned, (8, (0,)), odd)
            self.refused(BadNumber, odd, even_rhythm, odd, odd)
            self.refused(BadNumber, odd, even_rhythm, 8, odd)
        for odd in (0, -1, 97, 10 ** 900):
            self.refused(BadNumber, odd, even_rhythm, odd, 1)
            self.refused(BadNumber, odd, even_rhythm, odd, 0)
            self.refused(BadNumber, odd, even_rhythm, 96, odd)
        self.refused(BadNumber, 9, even_rhythm, 8, 9)

    def test_bad_papers(self):
        rhythm = (8, (0, 1, 2))
        for odd in ODD + (("even",), ("even", 0, 0), ["even", 0], ("uneven", 1, 2), ("uneven", 1, 2, 0, 0), ("uneven", 0),
                          ("even", 1, 2, 0), ["uneven", 1, 2, 0], "even", (("even", 0),)):
            self.refused(BadPaper, "form", check_even, rhythm, odd)
        self.assertEqual(check_even(rhythm, ("uneven", 1, 2, 0)), "uneven")
        even = (8, (0, 2, 5))
        for odd in NO_INTEGERS + (8, -8, 10 ** 900):
            self.refused(BadPaper, "turn", check_even, even, ("even", odd))
            self.refused(BadPaper, "turn", check_even, rhythm, ("even", odd))
        for odd in NO_INTEGERS + (-1, 3, 4, 10 ** 900):
            self.refused(BadPaper, "stretches", check_even, rhythm, ("uneven", 1, odd, 0))
            self.refused(BadPaper, "stretches", check_even, rhythm, ("uneven", 1, 2, odd))
            if odd != 3:
                self.refused(BadPaper, "stretches", check_even, rhythm, ("uneven", odd, 2, 0))
        self.refused(BadPaper, "stretches", check_even, rhythm, ("uneven", 0, 2, 0))
        self.refused(BadPaper, "turn", check_even, (8, (0, 4)), ("even", 4))
        # Numbers of gaps do not go on over the end of the ring.
        wide = (8, (0, 6, 7))
        self.assertEqual(check_even(wide, ("uneven", 1, 0, 1)), "uneven")
        for one, other in ((3, 1), (0, 4), (-3, 1), (0, -2)):
            self.refused(BadPaper, "stretches", check_even, wide, ("uneven", 1, one, other))


if __name__ == "__main__":
    unittest.main()

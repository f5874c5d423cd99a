"""Ringers: [340] to [343], and tacthouse.ringers."""

import unittest
from fractions import Fraction
from itertools import combinations, product
from math import gcd, lcm

from tacthouse.errors import BadFraction, BadNumber, BadPaper, BadRinger, BadRingers, TooMany
from tacthouse.ringers import (check_meet, common_round, dodges, does_strike, first_doubt, first_meet, many_meets,
                               meet_at, meet_paper, meets_between, nearest_strokes)
from tests.making import Numbers
from tests.refusing import NO_INTEGERS, ODD, Refusing
from tests.test_tempos import NO_FRACTIONS, pair

ONE = (1, 1)
BELL = ((8, (0, 3, 6)), (1, 2), (1, 3))
OTHER = ((5, (0, 2)), (0, 1), (1, 2))
RINGERS = (BELL, OTHER)
NEVER = (((2, (0,)), (0, 1), ONE), ((2, (1,)), (0, 1), ONE))


def strikes(ringer, low, high):
    """All SECONDS from low to below high at which it strikes, by the words of [340]."""
    (beats, strokes), start, beat = ringer
    start, beat = Fraction(*start), Fraction(*beat)
    found, lap = [], int((low - start) / (beat * beats)) - 2
    while start + beat * beats * lap < high:
        found.extend(start + beat * (stroke + beats * lap) for stroke in strokes)
        lap += 1
    return [second for second in found if low <= second < high]


def meets(ringers, low, high):
    found = set(strikes(ringers[0], low, high))
    for ringer in ringers[1:]:
        found &= set(strikes(ringer, low, high))
    return sorted(found)


def joint(fractions):
    """The least multiple of some fractions."""
    bottom = lcm(*(one.denominator for one in fractions))
    return Fraction(lcm(*(int(one * bottom) for one in fractions)), bottom)


def greatest_part(one, other):
    bottom = lcm(one.denominator, other.denominator)
    return Fraction(gcd(int(one * bottom), int(other * bottom)), bottom)


def round_of(ringer):
    return ringer[0][0] * Fraction(*ringer[2])


def ringer_of(numbers, beats=7, parts=3):
    many = 1 + numbers.below(beats)
    strokes = tuple(sorted({numbers.below(many) for _ in range(1 + numbers.below(3))}))
    start = Fraction(numbers.below(17) - 8, 1 + numbers.below(parts))
    return ((many, strokes), pair(start), pair(Fraction(1 + numbers.below(3), 1 + numbers.below(parts))))


def clash(one, other, stroke, far):
    apart = Fraction(*one[1]) + Fraction(*one[2]) * stroke - Fraction(*other[1]) - Fraction(*other[2]) * far
    return (apart / greatest_part(round_of(one), round_of(other))).denominator != 1


def doubt(one, other, low, high, mark, end):
    """The FIRST DOUBT among the strokes up to an end, by all pairs; None if there is none."""
    low, high, found = Fraction(*low), Fraction(*high), []
    for left in strikes(one, mark, end):
        for right in strikes(other, mark, end):
            stretches = [(low * (second - mark), high * (second - mark)) for second in (left, right)]
            if max(start for start, _ in stretches) <= min(stop for _, stop in stretches):
                found.append((max(left, right), min(left, right), left, right))
    return min(found)[2:] if found else None


class Ringers(Refusing, unittest.TestCase):
    def test_arguments(self):
        self.assertIs(does_strike(one=BELL, second=(1, 2)), True)
        self.assertEqual(common_round(ringers=RINGERS), (40, 1))
        self.assertEqual(many_meets(ringers=RINGERS), 6)
        self.assertEqual(first_meet(ringers=RINGERS, second=(0, 1)), (5, 2))
        self.assertEqual(meet_at(ringers=RINGERS, second=(0, 1), number=6), (85, 2))
        self.assertEqual(meets_between(ringers=RINGERS, second=(5, 2), other=(85, 2)), 6)
        self.assertEqual(check_meet(ringers=RINGERS, paper=meet_paper(ringers=RINGERS)), "meet")
        self.assertEqual(nearest_strokes(one=BELL, other=OTHER), (0, 1))
        self.assertEqual(dodges(one=NEVER[0], other=NEVER[0]), (1,))
        self.assertEqual(first_doubt(one=BELL, other=OTHER, low=ONE, high=ONE, mark=(3, 1)), ((17, 2), (17, 2)))

    def test_strikes(self):
        for start in range(60):
            ringer = ringer_of(Numbers(start))
            seen = set(strikes(ringer, Fraction(-20), Fraction(20)))
            for top in range(-240, 240):
                second = Fraction(top, 12)
                self.assertIs(self.same(does_strike, ringer, pair(second)), second in seen)
        far = ((96, (95,)), (10 ** 59, 1), (1, 10 ** 59))
        for lap in (0, 1, -1, -10 ** 118, 10 ** 40):
            self.assertIs(does_strike(far, pair(10 ** 59 + Fraction(95 + 96 * lap, 10 ** 59))), True)
            self.assertIs(does_strike(far, pair(10 ** 59 + Fraction(94 + 96 * lap, 10 ** 59))), False)
        self.assertIs(does_strike(((3, (1,)), (0, 1), ONE), (-2, 1)), True)
        self.assertIs(does_strike(((3, (1,)), (0, 1), ONE), (-1, 1)), False)

    def test_meets_against_a_plain_going(self):
        counts = set()
        for start in range(200):
            numbers = Numbers(start + 77)
            ringers = tuple(ringer_of(numbers) for _ in range(2 + numbers.below(3)))
            common = joint([round_of(ringer) for ringer in ringers])
            self.assertEqual(self.same(common_round, ringers), pair(common))
            if common > 400:
                continue
            begin = Fraction(numbers.below(300) - 150, 1 + numbers.below(5))
            told = meets(ringers, begin, begin + common)
            counts.add(min(len(told), 3))
            self.assertEqual(self.same(many_meets, ringers), len(told))
            self.assertEqual(self.same(first_meet, ringers, pair(begin)), pair(told[0]) if told else None)
            for number in (0, 1, 2, 5, len(told), 10 ** 12 - 1, 10 ** 12):
                meet = None
                if told:
                    meet = pair(told[number % len(told)] + number // len(told) * common)
                self.assertEqual(self.same(meet_at, ringers, pair(begin), number), meet)
            self.between(ringers, begin, common, told, numbers)
            self.papers(ringers, told)
        self.assertEqual(counts, {0, 1, 2, 3})

    def test_three_and_four_with_much_in_common(self):
        counts = set()
        for start in range(150):
            numbers = Numbers(start + 4000)
            ringers = []
            for _ in range(3 + numbers.below(2)):
                beats = (4, 6, 8, 9, 12, 18)[numbers.below(6)]
                strokes = tuple(sorted({numbers.below(beats) for _ in range(1 + numbers.below(4))}))
                ringers.append(((beats, strokes), (numbers.below(9), 1), ONE))
            ringers = tuple(ringers)
            told = meets(ringers, Fraction(3), Fraction(3 + 72))
            counts.add(min(len(told), 4))
            common = joint([round_of(ringer) for ringer in ringers])
            self.assertEqual(many_meets(ringers) * 72, len(told) * common)
            self.assertEqual([meet_at(ringers, (3, 1), number) for number in range(len(told))], [pair(second) for second in told])
            self.papers(ringers, told)
        self.assertEqual(counts, {0, 1, 2, 3, 4})

    def between(self, ringers, begin, common, told, numbers):
        for _ in range(3):
            end = begin + Fraction(numbers.below(200) - 20, 1 + numbers.below(3))
            many = len(meets(ringers, begin, end)) if end > begin else 0
            self.assertEqual(self.same(meets_between, ringers, pair(begin), pair(end)), many)
        self.assertEqual(meets_between(ringers, pair(begin), pair(begin + common * 10 ** 20)), len(told) * 10 ** 20)
        self.assertEqual(meets_between(ringers, pair(begin), pair(begin)), 0)
        for meet in told[:2]:
            self.assertEqual(meets_between(ringers, pair(meet), pair(meet + Fraction(1, 10 ** 9))), 1)
            self.assertEqual(meets_between(ringers, pair(meet - Fraction(1, 10 ** 9)), pair(meet)), 0)
            self.assertEqual(first_meet(ringers, pair(meet)), pair(meet))

    def papers(self, ringers, told):
        paper = self.same(meet_paper, ringers)
        self.assertEqual(paper[0], "meet" if told else "never")
        self.assertEqual(self.same(check_meet, ringers, paper), paper[0])
        choices = list(product(*(ringer[0][1] for ringer in ringers)))
        clashes = [[two for two in combinations(range(len(ringers)), 2)
                    if clash(ringers[two[0]], ringers[two[1]], choice[two[0]], choice[two[1]])] for choice in choices]
        self.assertEqual(all(clashes), not told)
        if told:
            word, choice, second = paper
            for ringer, stroke in zip(ringers, choice):
                self.assertIs(does_strike(((ringer[0][0], (stroke,)),) + ringer[1:], second), True)
            for other in choices:
                if other != choice:
                    self.refused(BadPaper, "meet", check_meet, ringers, ("meet", other, second))
            self.refused(BadPaper, "meet", check_meet, ringers, ("meet", choice, pair(Fraction(*second) + Fraction(1, 997))))
            self.refused(BadPaper, "never", check_meet, ringers, ("never", tuple((0, 1) for _ in choices)))
        else:
            self.assertTrue(all(two in row for two, row in zip(paper[1], clashes)))
            last = tuple(row[-1] for row in clashes)
            self.assertEqual(check_meet(ringers, ("never", last)), "never")
            for bad in (last[:-1], last + last[-1:], list(last), last[:-1] + (None,), last[:-1] + (last[-1][::-1],), last[:-1] + (list(last[-1]),)):
                self.refused(BadPaper, "never", check_meet, ringers, ("never", bad))
            self.refused(BadPaper, "meet", check_meet, ringers, ("meet", choices[0], ringers[0][1]))
            for at, row in enumerate(clashes[:5]):
                for two in combinations(range(len(ringers)), 2):
                    if two not in row:
                        self.refused(BadPaper, "never", check_meet, ringers, ("never", last[:at] + (two,) + last[at + 1:]))

    def test_papers_of_many_kinds(self):
        self.assertEqual(check_meet(RINGERS, ("meet", (6, 0), (5, 2))), "meet")
        self.assertEqual(check_meet(RINGERS, ("meet", (6, 0), (5 - 80 * 7, 2))), "meet")
        for bad in ODD + ("meet", ("meet",), ("meet", (6, 0)), ["meet", (6, 0), (5, 2)], ("meet", (6, 0), (5, 2), 0), ("never",), ("never", (), ()),
                          ["never", ()], ("meets", (6, 0), (5, 2)), (("meet",), 0, 0)):
            self.refused(BadPaper, "form", check_meet, RINGERS, bad)
        for bad in ODD + (0, (6,), (6, 0, 0), [6, 0], (6, False), (6, 1), (0, 0), (6, None), (-2, 0), (6, 10 ** 900), "60"):
            self.refused(BadPaper, "meet", check_meet, RINGERS, ("meet", bad, (5, 2)))
        self.refused(BadPaper, "meet", check_meet, NEVER, ("meet", (0, True), (1, 1)))
        # A beat that is no stroke, at a second at which it would strike.
        halves = (((4, (0, 2)), (0, 1), ONE), ((2, (1,)), (0, 1), ONE))
        self.refused(BadPaper, "meet", check_meet, halves, ("meet", (1, 1), (1, 1)))
        self.refused(BadPaper, "meet", check_meet, halves, ("meet", (0, 0), (0, 1)))
        for odd in NO_FRACTIONS + ((0, 1), (5, 1), (10, 4)):
            self.refused(BadPaper, "meet", check_meet, RINGERS, ("meet", (6, 0), odd))
        self.assertEqual(meet_paper(NEVER), ("never", ((0, 1),)))
        self.assertEqual(check_meet(NEVER, ("never", ((0, 1),))), "never")
        for bad in ODD + (0, ((1, 0),), ((0, 0),), ((0, 1), (0, 1)), ([0, 1],), [(0, 1)], ((0, 2),), ((-1, 1),), ((False, 1),), ((0, True),),
                          ((0, 1, 1),), (0, 1), ((None, 1),), ((0, 10 ** 900),)):
            self.refused(BadPaper, "never", check_meet, NEVER, ("never", bad))
            self.refused(BadPaper, "never", check_meet, RINGERS, ("never", bad))

    def test_many_choices(self):
        rows = [tuple(range(many)) for many in (10, 10, 10, 2)]
        most = tuple(((96, row), pair(Fraction(at, 7)), (1, at + 1)) for at, row in enumerate(rows))
        paper = meet_paper(most)
        self.assertEqual(check_meet(most, paper), paper[0])
        self.assertEqual(many_meets(most) > 0, paper[0] == "meet")
        more = most[:3] + (((96, (0, 1, 2)), (3, 7), (1, 4)),)
        for call, rest in ((common_round, ()), (many_meets, ()), (first_meet, (None,)), (meet_at, (None, None)),
                           (meets_between, (None, None)), (meet_paper, ()), (check_meet, (None,))):
            self.refused(TooMany, 2000, call, more, *rest)
        full = tuple(((44, tuple(range(44))), (0, 1), (1, 60 + at)) for at in range(2))
        self.assertEqual(many_meets(full), 44)
        self.refused(TooMany, 2000, common_round, (((96, tuple(range(87))), ONE, ONE), ((23, tuple(range(23))), ONE, ONE)))

    def test_great_numbers(self):
        one = ((96, (0, 5, 95)), (10 ** 59 + 1, 10 ** 59 - 3), (10 ** 59 + 7, 10 ** 58 + 3))
        other = ((95, (1, 4, 90)), (-10 ** 59, 10 ** 59 - 1), (10 ** 58 + 9, 10 ** 59 + 3))
        common = joint([round_of(one), round_of(other)])
        self.assertEqual(common_round((one, other)), pair(common))
        self.assertEqual(meet_paper((one, other))[0], "never")
        joined = (one, ((95, (1, 4, 90)), pair(Fraction(*one[1]) + 5 * Fraction(*one[2])), other[2]))
        found = first_meet(joined, (0, 1))
        self.assertTrue(all(does_strike(ringer, found) for ringer in joined))
        # Of strokes told more exactly than the rounds have in common, most never meet.
        many = many_meets(joined)
        for number in range(many + 1):
            meet = meet_at(joined, found, number)
            self.assertTrue(all(does_strike(ringer, meet) for ringer in joined))
        self.assertEqual(meet, pair(Fraction(*found) + common))

    def test_nearest(self):
        seen = set()
        for start in range(120):
            numbers = Numbers(start + 600)
            one, other = ringer_of(numbers, 5), ringer_of(numbers, 5)
            common = joint([round_of(one), round_of(other)])
            if common > 100:
                continue
            left = strikes(one, Fraction(0), common)
            right = strikes(other, -common, common * 2)
            told = min(abs(near - far) for near in left for far in right)
            seen.add(told == 0)
            self.assertEqual(self.same(nearest_strokes, one, other), pair(told), (one, other))
            self.assertEqual(nearest_strokes(other, one), pair(told))
        self.assertEqual(seen, {True, False})
        self.assertEqual(nearest_strokes(((96, tuple(range(96))), (0, 1), ONE), ((96, tuple(range(96))), (1, 2), ONE)), (1, 2))

    def test_dodges(self):
        some = 0
        for start in range(160):
            numbers = Numbers(start + 900)
            one, other = ringer_of(numbers, 6), ringer_of(numbers, 6)
            unit = greatest_part(Fraction(*one[2]), Fraction(*other[2]))
            many = greatest_part(round_of(one), round_of(other)) / unit
            told = [number for number in range(int(many)) if meet_paper(
                (one, (other[0], pair(Fraction(*one[1]) + number * unit), other[2])))[0] == "never"]
            self.assertEqual(self.same(dodges, one, other), tuple(told), (one, other))
            some += bool(told)
            if many > len(one[0][1]) * len(other[0][1]):
                self.assertTrue(told)
        self.assertGreater(some, 30)

    def test_dodges_of_many_units(self):
        one, other = ((50, (0, 7)), (1, 3), (40, 1)), ((80, (0, 3)), (5, 7), (25, 1))
        # 2,000 seconds in common, by units of 5.
        self.assertEqual(len(dodges(one, other)), 400 - 4)
        most, even = ((80, (0,)), (0, 1), (25, 1)), ((25, (0, 1)), (9, 2), (80, 1))
        self.assertEqual(dodges(most, even), tuple(sorted(set(range(400)) - {0, 400 - 16})))
        for two in (((45, (0,)), ONE, (46, 1)), ((46, (0,)), ONE, (45, 1))), (((46, (0, 1)), ONE, (49, 1)), ((49, (0,)), ONE, (46, 1))):
            self.refused(TooMany, 2000, dodges, *two)
        self.assertEqual(len(dodges(((40, (0, 1)), ONE, (47, 1)), ((47, (0,)), ONE, (40, 1)))), 40 * 47 - 2)
        self.assertEqual(len(dodges(((50, (0,)), ONE, (39, 40)), ((39, (0,)), ONE, (5, 4)))), 50 * 39 - 1)
        self.assertEqual(len(dodges(((80, (0,)), ONE, (25, 1)), ((75, (0,)), ONE, (80, 3)))), 2000 * 3 // 5 - 1)
        # 54 times 37, and 69 times 29: 1,998 and 2,001 UNITS.
        self.assertEqual(len(dodges(((54, (0, 1)), ONE, (37, 5)), ((37, (0, 1, 2)), ONE, (54, 5)))), 1998 - 6)
        self.refused(TooMany, 2000, dodges, ((69, (0,)), ONE, (29, 5)), ((29, (0,)), ONE, (69, 5)))

    def test_doubts_against_all_pairs(self):
        kinds = set()
        for start in range(220):
            numbers = Numbers(start + 1300)
            one, other = ringer_of(numbers), ringer_of(numbers)
            low = Fraction(2 + numbers.below(40), 40)
            high = low + Fraction(numbers.below(4), 30)
            mark = Fraction(numbers.below(60) - 30, 1 + numbers.below(4))
            told = None
            common = joint([round_of(one), round_of(other)])
            for reach in (3, 10, 40, 120):
                told = told or doubt(one, other, pair(low), pair(high), mark, mark + reach)
            if low == high and common <= 120 or told is not None:
                kinds.add((low == high, told is None, told is not None and told[0] < told[1], told is not None and told[1] < told[0]))
                told = None if told is None else tuple(pair(second) for second in told)
                self.assertEqual(self.same(first_doubt, one, other, pair(low), pair(high), pair(mark)), told, (one, other, low, high, mark))
            if low == high:
                meet = first_meet((one, other), pair(mark))
                self.assertEqual(first_doubt(one, other, pair(low), pair(high), pair(mark)), meet and (meet, meet))
        self.assertEqual(kinds, {(True, True, False, False), (True, False, False, False), (False, False, False, False),
                                 (False, False, True, False), (False, False, False, True)})

    def test_doubts_at_the_mark_and_of_several(self):
        steady = ((1, (0,)), (0, 1), ONE)
        self.assertEqual(first_doubt(steady, steady, ONE, (2, 1), (0, 1)), ((0, 1), (0, 1)))
        self.assertEqual(first_doubt(steady, steady, ONE, (2, 1), (1, 2)), ((1, 1), (1, 1)))
        # At 2 behind the mark the later one; the sooner one as soon as can be.
        sooner, later = ((9, (1, 2)), (0, 1), ONE), ((9, (3,)), (0, 1), ONE)
        self.assertEqual(first_doubt(sooner, later, ONE, (3, 1), (0, 1)), ((1, 1), (3, 1)))
        self.assertEqual(first_doubt(later, sooner, ONE, (3, 1), (0, 1)), ((3, 1), (1, 1)))
        self.assertEqual(first_doubt(sooner, later, ONE, (299, 100), (0, 1)), ((2, 1), (3, 1)))
        # Of two such the one whose first second is less.
        both = ((9, (2, 3)), (0, 1), ONE)
        self.assertEqual(first_doubt(both, ((9, (2, 3)), (1, 2), ONE), (1, 1), (5, 4), (0, 1)), ((2, 1), (5, 2)))
        left, right = ((9, (2, 4)), (0, 1), ONE), ((9, (4,)), (0, 1), ONE)
        self.assertEqual(first_doubt(left, right, (1, 1), (2, 1), (0, 1)), ((2, 1), (4, 1)))
        self.assertEqual(first_doubt(((9, (2, 4)), (0, 1), ONE), ((9, (2, 4)), (0, 1), ONE), ONE, (2, 1), (0, 1)), ((2, 1), (2, 1)))
        self.assertEqual(first_doubt(((12, (3, 8)), (0, 1), ONE), ((12, (4, 8)), (0, 1), ONE), (3, 1), (4, 1), (0, 1)), ((3, 1), (4, 1)))

    def test_many_strikes(self):
        """Up to 400 of each are told about."""
        # Just 400 from the mark to the later one, and one more.
        quick, slow = ((1, (0,)), ONE, ONE), ((96, (0,)), (400, 1), (10 ** 9, 1))
        self.assertEqual(first_doubt(quick, slow, (10 ** 9, 1), (10 ** 9 + 1, 1), (1, 2)), ((400, 1), (400, 1)))
        self.assertEqual(first_doubt(quick, slow, (10 ** 9, 1), (10 ** 9 + 1, 1), (1, 1)), ((400, 1), (400, 1)))
        self.refused(TooMany, 400, first_doubt, quick, slow, (10 ** 9, 1), (10 ** 9 + 1, 1), (0, 1))
        self.refused(TooMany, 400, first_doubt, slow, quick, (10 ** 9, 1), (10 ** 9 + 1, 1), (0, 1))
        far = ((96, (0,)), (3 * 10 ** 9 + 1, 2), (10 ** 9, 1))
        self.refused(TooMany, 400, first_doubt, quick, far, ONE, (10 ** 9 + 1, 10 ** 9), (0, 1))
        # Nothing of this if both bounds are the same.
        self.assertEqual(first_doubt(quick, slow, ONE, ONE, (-1000, 1)), ((400, 1), (400, 1)))
        full = ((96, tuple(range(96))), (0, 1), ONE)
        self.assertEqual(first_doubt(full, full, ONE, ONE, (7, 2)), ((4, 1), (4, 1)))
        self.assertIsNone(first_doubt(full, ((96, tuple(range(96))), (1, 2), ONE), ONE, ONE, (7, 2)))

    def test_no_ringers(self):
        calls = ((common_round, ()), (many_meets, ()), (first_meet, (None,)), (meet_at, (None, None)), (meets_between, (None, None)),
                 (meet_paper, ()), (check_meet, (None,)))
        for call, rest in calls:
            for odd in ODD + (0, RINGERS[:1], RINGERS * 2 + RINGERS[:1], list(RINGERS)):
                if not isinstance(odd, tuple) or not 2 <= len(odd) <= 4:
                    self.refused(BadRingers, "form", call, odd, *rest)
            for odd in self.no_ringers():
                self.refused(BadRingers, 0, call, (odd, odd), *rest)
                self.refused(BadRingers, 3, call, RINGERS + (BELL, odd), *rest)

    def no_ringers(self):
        found = list(ODD) + [0, list(BELL), BELL[:2], BELL + (0,), ((8, ()), ONE, ONE), ((8, (8,)), ONE, ONE), ((97, (0,)), ONE, ONE),
                             ((8, [0]), ONE, ONE), ([8, (0,)], ONE, ONE), ((8, (0,)), ONE, (0, 1)), ((8, (0,)), ONE, (-1, 2)),
                             ((8, (True,)), ONE, ONE), ((8, (1, 0)), ONE, ONE)]
        found += [(BELL[0], odd, ONE) for odd in NO_FRACTIONS] + [(BELL[0], ONE, odd) for odd in NO_FRACTIONS]
        return found

    def test_no_ringer(self):
        for odd in self.no_ringers():
            self.refused(BadRinger, odd, does_strike, odd, None)
            for call, rest in ((nearest_strokes, ()), (dodges, ()), (first_doubt, (None, None, None))):
                self.refused(BadRinger, odd, call, odd, None, *rest)
                self.refused(BadRinger, odd, call, BELL, odd, *rest)

    def test_errors(self):
        for odd in NO_FRACTIONS:
            self.refused(BadFraction, odd, does_strike, BELL, odd)
            self.refused(BadFraction, odd, first_meet, RINGERS, odd)
            self.refused(BadFraction, odd, meet_at, RINGERS, odd, None)
            self.refused(BadFraction, odd, meets_between, RINGERS, odd, None)
            self.refused(BadFraction, odd, meets_between, RINGERS, (0, 1), odd)
            self.refused(BadFraction, odd, first_doubt, BELL, OTHER, odd, None, None)
            self.refused(BadFraction, odd, first_doubt, BELL, OTHER, ONE, odd, None)
            self.refused(BadFraction, odd, first_doubt, BELL, OTHER, ONE, ONE, odd)
        for odd in NO_INTEGERS + (-1, 10 ** 12 + 1, 10 ** 900):
            self.refused(BadNumber, odd, meet_at, RINGERS, (0, 1), odd)
            self.refused(BadNumber, odd, meet_at, NEVER, (0, 1), odd)
        for odd in ((0, 1), (-1, 1)):
            self.refused(BadFraction, odd, first_doubt, BELL, OTHER, odd, ONE, (0, 1))
        for odd in ((0, 1), (-1, 1), (1, 2), (999, 1000)):
            self.refused(BadFraction, odd, first_doubt, BELL, OTHER, ONE, odd, (0, 1))
        self.assertIsNone(first_meet(NEVER, (0, 1)))
        self.assertIsNone(meet_at(NEVER, (0, 1), 10 ** 12))
        self.assertEqual((many_meets(NEVER), meets_between(NEVER, (0, 1), (10 ** 50, 1))), (0, 0))


if __name__ == "__main__":
    unittest.main()

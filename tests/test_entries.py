"""Entries, floors and pairs: [203], [204], and tacthouse.entries."""

import unittest
from itertools import combinations

from tacthouse.entries import are_entries, check_entries, entries_of, entries_paper, fair_floors, is_fair_pair
from tacthouse.errors import BadNumber, BadPaper, BadRing, TooMany
from tacthouse.rings import turned
from tests.refusing import NO_INTEGERS, ODD, Refusing
from tests.test_rings import BAD, rhythms

PRIMES = [number for number in range(2, 96) if all(number % part for part in range(2, number))]


def covers(rhythm, entries):
    beats, strokes = rhythm
    hit = sorted((stroke + entry) % beats for stroke in strokes for entry in entries)
    return hit == list(range(beats))


def search(rhythm, taken=frozenset(), entries=()):
    """ENTRIES by trying: the least free beat has to be struck somehow."""
    beats, strokes = rhythm
    if len(taken) == beats:
        return tuple(sorted(entries))
    free = min(set(range(beats)) - taken)
    for stroke in strokes:
        entry = (free - stroke) % beats
        more = {(one + entry) % beats for one in strokes}
        if not more & taken:
            found = search(rhythm, taken | more, entries + (entry,))
            if found is not None:
                return found
    return None


def primes_in(number):
    return [prime for prime in PRIMES if number % prime == 0]


def plain_floors(rhythm, prime):
    """The fair floors by the words of [203]."""
    beats, strokes = rhythm
    found, floor = [], 1
    while beats % prime ** floor == 0:
        power = prime ** floor
        rests = [stroke % power for stroke in strokes]
        if all(rests.count(rest) == rests.count(rest + turn * (power // prime))
               for rest in range(power // prime) for turn in range(1, prime)):
            found.append(floor)
        floor += 1
    return tuple(found)


def plain_pair(rhythm, prime, floor, other, far):
    one = prime ** floor * other ** far
    rests = [stroke % one for stroke in rhythm[1]]
    return all(rests.count(rest) + rests.count((rest - one // prime - one // other) % one)
               == rests.count((rest - one // prime) % one) + rests.count((rest - one // other) % one) for rest in range(one))


class Entries(Refusing, unittest.TestCase):
    def test_arguments(self):
        rhythm = (8, (0, 1, 4, 5))
        self.assertIs(are_entries(rhythm=rhythm, thing=(1, 7)), True)
        self.assertEqual(fair_floors(rhythm=rhythm, prime=2), (1, 3))
        self.assertIs(is_fair_pair(rhythm=(6, (0, 1, 2, 3, 4, 5)), prime=2, floor=1, other=3, far=1), True)
        self.assertEqual(entries_of(rhythm=rhythm), entries_of(rhythm))
        self.assertEqual(entries_paper(rhythm=rhythm), entries_paper(rhythm))
        self.assertEqual(check_entries(rhythm=rhythm, paper=("entries", (1, 7))), "entries")

    def test_small_rings(self):
        told = set()
        for rhythm in rhythms(10):
            if rhythm[1][0] == 0:
                told.add(self.look(rhythm))
        for beats, many in ((12, 4), (12, 6), (16, 4), (18, 6), (18, 3), (20, 4)):
            for at, strokes in enumerate(combinations(range(1, beats), many - 1)):
                if at % 23 == 0:
                    told.add(self.look((beats, (0,) + strokes)))
        self.assertEqual(told, {"entries", "share", "floors", "pair"})

    def look(self, rhythm):
        """All functions on a RHYTHM with few primes, by a plain search; the word of the paper."""
        beats, strokes = rhythm
        there = search(rhythm)
        found = self.same(entries_of, rhythm)
        self.assertEqual(found is None, there is None, rhythm)
        if found is not None:
            self.assertTrue(covers(rhythm, found))
            self.assertEqual(found, tuple(sorted(set(found))))
            self.assertIs(self.same(are_entries, rhythm, found), True)
            self.assertIs(are_entries(rhythm, there), True)
        for prime in primes_in(beats):
            self.assertEqual(self.same(fair_floors, rhythm, prime), plain_floors(rhythm, prime))
        paper = self.same(entries_paper, rhythm)
        self.assertEqual(self.same(check_entries, rhythm, paper), paper[0])
        self.assertEqual(paper[0] == "entries", there is not None)
        self.papers(rhythm)
        return paper[0]

    def papers(self, rhythm):
        """All papers of three words that could hold, by the plain words."""
        beats, strokes = rhythm
        many = len(strokes)
        self.held(beats % many != 0, rhythm, ("share",))
        for prime in (2, 3, 5, 7):
            stands = max(power for power in range(8) if many % prime ** power == 0)
            for floors in ((), (1,), (2,), (1, 2), (1, 3)):
                true = floors == plain_floors(rhythm, prime) and len(floors) != stands
                self.held(true, rhythm, ("floors", prime, floors))
        for prime, other in ((2, 3), (2, 5), (3, 5)):
            for floor in plain_floors(rhythm, prime):
                for far in plain_floors(rhythm, other):
                    fair = plain_pair(rhythm, prime, floor, other, far)
                    self.assertIs(self.same(is_fair_pair, rhythm, prime, floor, other, far), fair)
                    self.held(not fair, rhythm, ("pair", prime, floor, other, far))
                    self.held(False, rhythm, ("pair", other, far, prime, floor))

    def held(self, true, rhythm, paper):
        if true:
            self.assertEqual(check_entries(rhythm, paper), paper[0])
        else:
            self.refused(BadPaper, paper[0], check_entries, rhythm, paper)

    def test_known_greater_rings(self):
        """Rhythms that strike each beat once, put together of parts; and one stroke moved."""
        for beats, parts in ((96, ((0, 1), (0, 4, 8), (0, 48))), (72, ((0, 1, 2), (0, 9), (0, 18))), (96, ((0, 32, 64), (0, 3))),
                             (90, ((0, 10, 20), (0, 5))), (64, ((0, 1), (0, 4), (0, 16))), (81, ((0, 1, 2), (0, 9, 18))),
                             (95, (tuple(range(0, 95, 5)),)), (96, ((17,),)), (96, (tuple(range(96)),)), (50, ((0, 2, 4, 6, 8),)),
                             (72, ((0, 8, 16, 18, 26, 34),)),
                             (75, ((0, 1, 2), (0, 15, 30, 45, 60))), (75, ((0, 1, 2, 3, 4), (0, 25, 50)))):
            strokes = [0]
            for part in parts:
                strokes = [stroke + more for stroke in strokes for more in part]
            rhythm = (beats, tuple(sorted(stroke % beats for stroke in strokes)))
            found = entries_of(rhythm)
            self.assertTrue(covers(rhythm, found), rhythm)
            for prime, other in combinations(primes_in(beats), 2):
                for floor in fair_floors(rhythm, prime):
                    for far in fair_floors(rhythm, other):
                        self.assertTrue(plain_pair(rhythm, prime, floor, other, far))
                        self.assertIs(is_fair_pair(rhythm, prime, floor, other, far), True)
            self.assertEqual(entries_paper(rhythm)[0], "entries")
            self.assertEqual(check_entries(rhythm, ("entries", found)), "entries")
            shifted = tuple(sorted((entry + 1) % beats for entry in found))
            self.assertIs(are_entries(rhythm, shifted), True)
            self.assertIsNotNone(entries_of(turned(rhythm, 5)))
            if 1 < len(rhythm[1]) < beats and len(rhythm[1]) > 2:
                moved = next(beat for beat in range(beats) if beat not in rhythm[1])
                other = (beats, tuple(sorted(rhythm[1][1:] + (moved,))))
                paper = entries_paper(other)
                self.assertEqual(check_entries(other, paper), paper[0])
                self.assertEqual(paper[0] == "entries", entries_of(other) is not None)

    def test_pairs_against_entries(self):
        """All floors are fair as they should be, but one pair is not."""
        rhythm = (36, (0, 1, 2, 15, 16, 17))
        found = [one for one in ((36, tuple(sorted(({0, 1, 2} | {a, b, c})))) for a in range(3, 36) for b in range(a + 1, 36)
                                 for c in range(b + 1, 36)) if entries_paper(one)[0] == "pair"]
        self.assertTrue(found)
        for one in found[:20]:
            self.assertIsNone(entries_of(one))
            word, prime, floor, other, far = entries_paper(one)
            self.assertIs(is_fair_pair(one, prime, floor, other, far), False)
            self.assertEqual(check_entries(one, ("pair", prime, floor, other, far)), "pair")
        self.assertEqual(check_entries(rhythm, entries_paper(rhythm)), entries_paper(rhythm)[0])

    def test_pairs_of_odd_primes(self):
        """Fifteen strokes on thirty beats, five for each rest by 3, three for each rest by 5."""
        seen = set()
        for rows in (((1, 1, 1, 1, 1),) * 3, ((2, 1, 0, 1, 1), (0, 1, 2, 1, 1), (1, 1, 1, 1, 1)),
                     ((2, 0, 1, 2, 0), (1, 2, 0, 0, 2), (0, 1, 2, 1, 1)), ((2, 2, 1, 0, 0), (1, 0, 0, 2, 2), (0, 1, 2, 1, 1))):
            strokes = []
            for rest, row in enumerate(rows):
                for other, many in enumerate(row):
                    strokes += [beat for beat in range(30) if (beat % 3, beat % 5) == (rest, other)][:many]
            rhythm = (30, tuple(sorted(strokes)))
            self.assertEqual((fair_floors(rhythm, 3), fair_floors(rhythm, 5)), ((1,), (1,)))
            fair = plain_pair(rhythm, 3, 1, 5, 1)
            self.assertIs(is_fair_pair(rhythm, 3, 1, 5, 1), fair)
            self.assertEqual(entries_of(rhythm) is not None, fair)
            seen.add(fair)
        self.assertEqual(seen, {True, False})

    def test_more_than_two_primes(self):
        for beats, strokes in ((90, range(0, 90, 3)), (60, range(30)), (90, range(42)), (96, range(30)), (60, range(60)),
                               (66, range(66)), (70, range(70)), (96, range(90)), (96, range(84)), (31, range(30))):
            rhythm = (beats, tuple(strokes))
            self.refused(TooMany, 2, entries_of, rhythm)
            self.refused(TooMany, 2, entries_paper, rhythm)
        rhythm = (90, tuple(range(0, 90, 3)))
        self.assertEqual(check_entries(rhythm, ("entries", (0, 1, 2))), "entries")
        self.assertEqual(check_entries((96, tuple(range(30))), ("share",)), "share")
        self.assertEqual(check_entries((96, tuple(range(30))), ("floors", 5, ())), "floors")
        # A pair tells nothing here, whether fair or not.
        odd = (60, (2, 3, 4, 5, 6, 8, 9, 10, 11, 21, 22, 23, 24, 28, 32, 33, 34, 35, 39, 40, 44, 45, 46, 51, 52, 53, 55, 57,
                    58, 59))
        self.assertIs(is_fair_pair(odd, 2, 1, 3, 1), False)
        self.refused(BadPaper, "pair", check_entries, odd, ("pair", 2, 1, 3, 1))
        self.refused(BadPaper, "pair", check_entries, (60, tuple(range(30))), ("pair", 2, 1, 3, 1))

    def test_no_rhythm(self):
        for bad in BAD:
            self.refused(BadRing, bad, are_entries, bad, None)
            self.refused(BadRing, bad, fair_floors, bad, None)
            self.refused(BadRing, bad, is_fair_pair, bad, None, None, None, None)
            self.refused(BadRing, bad, entries_of, bad)
            self.refused(BadRing, bad, entries_paper, bad)
            self.refused(BadRing, bad, check_entries, bad, None)

    def test_bad_numbers(self):
        rhythm = (36, tuple(range(36)))
        for odd in NO_INTEGERS + (0, 1, -2, 4, 9, 91, 95, 96, 97, 101, 10 ** 900):
            self.refused(BadNumber, odd, fair_floors, rhythm, odd)
            self.refused(BadNumber, odd, is_fair_pair, rhythm, odd, odd, odd, odd)
            self.refused(BadNumber, odd, is_fair_pair, rhythm, 2, 1, odd, odd)
        self.assertEqual([fair_floors(rhythm, prime) for prime in (2, 3, 5, 89)], [(1, 2), (1, 2), (), ()])
        for odd in NO_INTEGERS + (0, -1, 3, 10 ** 900):
            self.refused(BadNumber, odd, is_fair_pair, rhythm, 2, odd, odd, odd)
            self.refused(BadNumber, odd, is_fair_pair, rhythm, 2, 1, 3, odd)
        for smaller in (2, 3):
            self.refused(BadNumber, smaller, is_fair_pair, rhythm, 3, 1, smaller, 1)
        # A floor that is there, but is not fair.
        self.refused(BadNumber, 2, is_fair_pair, (8, (0, 1, 4, 5)), 2, 2, 3, 1)
        self.refused(BadNumber, 1, is_fair_pair, (8, (0, 1, 4, 5)), 2, 1, 5, 1)

    def test_are_entries(self):
        rhythm = (8, (0, 1, 4, 5))
        for thing in ((1, 7), (0, 2), (3, 5), (0, 6), (4, 6)):
            self.assertIs(are_entries(rhythm, thing), True, thing)
        for thing in ODD + ((2, 8), (7, 9), (-2, 0), (0, 1), (7, 1), (0, 8), (-1, 1), [1, 7], (0, 2, 4), (0,), (False, 2), (True, 7), (0, 2, 2), ("0", 2),
                            (0, 10 ** 900), ((0,), 2), (None, 2), range(2), (0, 4)):
            self.assertIs(are_entries(rhythm, thing), False, thing)
        self.assertIs(are_entries((1, (0,)), (0,)), True)
        self.assertIs(are_entries((3, (0, 1, 2)), ()), False)

    def test_bad_papers(self):
        rhythm = (8, (0, 1, 4, 5))
        for odd in ODD + (("entries",), ("entries", (1, 7), 0), ["entries", (1, 7)], ("share", 0), ["share"], "share", ("floors", 2),
                          ("floors", 2, (), 0), ("pair", 2, 1, 3), ("pair", 2, 1, 3, 1, 0), ("pears", 2, 1, 3, 1), ("shared",),
                          (("share",),), ("floors",), ("pair",)):
            self.refused(BadPaper, "form", check_entries, rhythm, odd)
        for odd in ODD + ((0, 1), [1, 7]):
            self.refused(BadPaper, "entries", check_entries, rhythm, ("entries", odd))
        three = (9, (0, 1, 3))
        self.assertEqual(fair_floors(three, 3), ())
        self.assertEqual(check_entries(three, ("floors", 3, ())), "floors")
        for prime in NO_INTEGERS + (1, 4, 9, 97, 10 ** 900):
            self.refused(BadPaper, "floors", check_entries, three, ("floors", prime, ()))
        for floors in NO_INTEGERS[:-1] + ((1,), (0,), [], (True,), (1, 1)):
            if floors != () or isinstance(floors, list):
                self.refused(BadPaper, "floors", check_entries, three, ("floors", 3, floors))
        five = (8, (0, 1, 2, 3, 4))
        self.refused(BadPaper, "floors", check_entries, five, ("floors", 2, ()))
        self.assertEqual(check_entries((4, (0, 1, 2)), ("floors", 3, ())), "floors")
        # True is no floor, though it is equal to one.
        one = (12, (0, 1, 4, 5, 8))
        self.refused(BadPaper, "floors", check_entries, one, ("floors", 5, (True,)))
        unfair = next(one for one in ((12, (0,) + rest) for rest in combinations(range(1, 12), 5)) if entries_paper(one)[0] == "pair")
        word, prime, floor, other, far = entries_paper(unfair)
        self.refused(BadPaper, "pair", check_entries, unfair, ("pair", prime, floor, prime, floor))
        self.refused(BadPaper, "pair", check_entries, unfair, ("pair", other, far, other, far))
        for odd in NO_INTEGERS + (0, 10 ** 900):
            self.refused(BadPaper, "pair", check_entries, unfair, ("pair", odd, floor, other, far))
            self.refused(BadPaper, "pair", check_entries, unfair, ("pair", prime, odd, other, far))
            self.refused(BadPaper, "pair", check_entries, unfair, ("pair", prime, floor, odd, far))
            self.refused(BadPaper, "pair", check_entries, unfair, ("pair", prime, floor, other, odd))


if __name__ == "__main__":
    unittest.main()

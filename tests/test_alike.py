"""Why two scores are alike, or not: [110], [111], and tacthouse.alike."""

import unittest

from tacthouse.alike import alike_paper, are_alike, check_alike, first_parting
from tacthouse.errors import BadPaper, BadScore, TooMany
from tacthouse.scores import asked_signs, sign_lengths, unfolded
from tacthouse.sounds import sound_at
from tests import making, plain
from tests.refusing import ODD, Refusing
from tests.test_sounds import MANY

A = ("block", (((0, 2), (None, 1)),))
B = ("block", (((0, 2),),))
REST = ("block", (((None, 1),),))
TWO = ("block", (((0, 2), (None, 1)), ((None, 1), (4, 2))))


def rewritten(score, numbers):
    """A SCORE with the same WORDS, written by other SIGNS."""
    made, last = list(score), len(score) - 1
    for _ in range(3):
        way = numbers.below(5)
        at = len(made)
        if way == 0:
            made += [("back", last), ("back", at)]
        elif way == 1:
            made += [("turned", last), ("up", at, 2), ("turned", at + 1), ("up", at + 2, 2)]
        elif way == 2 and made[last][0] == "again" and made[last][2] > 1:
            part, many = made[last][1:]
            made += [("again", part, many - 1), ("then", at, part)]
        elif way == 3 and made[last][0] == "then":
            made += [("ends", made[last][1], (made[last][2],))]
        elif way == 4 and made[last][0] == "block":
            rows = made[last][1]
            if all(row[0][0] is None for row in rows) and all(row[0][1] > 1 for row in rows):
                made += [("block", tuple(((None, 1),) for _ in rows)),
                         ("block", tuple(((None, row[0][1] - 1),) + row[1:] for row in rows)), ("then", at, at + 1)]
        last = len(made) - 1
    return tuple(made)


class Alike(Refusing, unittest.TestCase):
    def look(self, one, other):
        """All functions on two short SCORES, by the plain reading; whether they are ALIKE."""
        parting = plain.parting(one, other)
        self.assertEqual(self.same(first_parting, one, other), parting, (one, other))
        self.assertEqual(self.same(are_alike, one, other), parting is None)
        paper = self.same(alike_paper, one, other)
        self.assertEqual(paper[0], "alike" if parting is None else "part")
        self.assertTrue(plain.holds(one, other, paper), (one, other, paper))
        self.assertEqual(self.same(check_alike, one, other, paper), paper[0])
        return parting is None

    def test_short_ones(self):
        alike = 0
        for start in range(220):
            numbers = making.Numbers(start + 5000)
            voices = 1 + numbers.below(3)
            one = making.score(numbers, voices, 2 + numbers.below(9), 60)
            other = making.score(numbers, voices, 2 + numbers.below(9), 60)
            twice = one + (("then", len(one) - 1, len(one) - 1),)
            alike += self.look(one, other)
            alike += self.look(one, twice)
            self.assertTrue(self.look(one, rewritten(one, numbers)))
            self.assertTrue(self.look(one, one))
            mirrored = one + (("back", len(one) - 1),)
            alike += self.look(twice, mirrored + (("then", len(mirrored) - 2, len(mirrored) - 1),))
        self.assertGreater(alike, 20)

    def test_one_pitch_in_many_ways(self):
        """Words of few letters, with runs, part late or not at all."""
        x, y = ("block", (((1, 1),),)), ("block", (((1, 2),),))
        for many in range(1, 7):
            for more in range(1, 7):
                one = (x, y, ("again", 0, many), ("then", 2, 1), ("again", 3, more))
                for other in ((x, y, ("again", 0, more), ("then", 1, 2), ("again", 3, many)),
                              (x, y, ("then", 0, 1), ("again", 2, many), ("again", 3, more)),
                              (x, y, ("again", 0, many), ("then", 2, 1)) + (("ends", 3, (3,) * 3),),
                              (x, y, ("again", 1, many), ("ends", 0, (2, 2)))):
                    self.look(one, other)

    def test_lengths_and_voices(self):
        self.assertEqual(first_parting((A,), (A, ("again", 0, 2))), (3, None))
        self.assertEqual(first_parting((B,), (A,)), (2, None))
        self.assertEqual(first_parting((B,), (("block", (((0, 3),),)),)), (2, None))
        self.assertEqual(first_parting((A,), (("block", (((0, 3),),)),)), (2, 0))
        self.assertEqual(first_parting((A,), (TWO,)), (0, 1))
        self.assertEqual(first_parting((("block", A[1] * 4),), (TWO,)), (0, 2))
        self.assertEqual(first_parting((TWO, ("up", 0, 1)), (TWO,)), (0, 0))
        late = ("block", (((0, 2), (None, 1)), ((None, 1), (4, 1), (4, 1))))
        self.assertEqual(first_parting((late,), (TWO,)), (2, 1))
        both = ("block", (((0, 1), (None, 2)), ((None, 2), (4, 1))))
        self.assertEqual(first_parting((both,), (TWO,)), (1, 0))

    def long_pairs(self):
        """Pairs of very long SCORES, each with what first_parting tells."""
        big = 10 ** 11
        again = (A, ("again", 0, big), ("again", 1, big), ("again", 2, big))
        split = (B, REST, ("then", 0, 1), ("again", 2, big - 1), ("then", 2, 3), ("again", 4, big), ("again", 5, big))
        yield again, split, None
        # At the very end another EVENT.
        other = ("block", (((0, 2), (5, 1)),))
        yield (A, other, ("again", 0, big), ("again", 2, big), ("then", 3, 1)), \
              (A, ("again", 0, big), ("again", 1, big), ("then", 2, 0)), (3 * big * big + 2, 0)
        # One EVENT of half the LONG, somewhere in the middle.
        middle = (A, ("again", 0, big), ("again", 1, big), ("block", (((0, 1), (0, 1), (None, 1)),)), ("ends", 2, (3, 2)))
        plainer = (A, ("again", 0, big), ("again", 1, big), ("ends", 2, (0, 2)))
        yield middle, plainer, (3 * big * big + 1, 0)
        yield plainer, middle, (3 * big * big + 1, 0)
        # Rests that go on over joints, in all sorts of pieces.
        rests = (B, REST, ("again", 1, big), ("then", 0, 2), ("then", 2, 3), ("again", 4, big))
        moved = (B, REST, ("again", 1, 2 * big), ("then", 0, 2), ("again", 3, big - 1), ("again", 1, big), ("then", 5, 4),
                 ("then", 6, 0), ("then", 7, 5))
        yield rests, moved, None
        moved = moved[:5] + (("again", 1, big), ("ends", 5, (4,)), ("ends", 6, (0,)))
        yield rests, moved, (big * (2 * big + 2) - big, None)
        lead = rests[:4] + (("again", 1, 2 * big), ("then", 0, 4), ("again", 5, big - 1), ("then", 2, 6), ("then", 7, 3))
        yield rests, lead, None
        # The same but longer.
        yield again, again + (("then", 3, 1),), (3 * big ** 3, None)
        yield again + (("slow", 3, 2),), again + (("ends", 3, (3,)),), (2, 0)
        # Backwards, and backwards again somewhere inside.
        melody = tuple(((at * 7 % 12, at % 3 + 1) if at % 4 else (None, 2)) for at in range(12))
        first = (("block", (melody,)), ("up", 0, 2), ("then", 0, 1), ("turned", 2), ("ends", 2, (3, 1)), ("again", 4, big))
        front = first + (("again", 5, big),)
        inside = (("block", (melody[::-1],)), ("up", 0, 2), ("then", 1, 0), ("turned", 2), ("then", 3, 2), ("then", 1, 2),
                  ("then", 5, 4), ("again", 6, big), ("back", 7), ("again", 8, big))
        yield front, inside, None

    def test_long_pairs(self):
        seen = []
        for one, other, parting in self.long_pairs():
            self.assertEqual(self.same(first_parting, one, other), parting)
            self.assertEqual(first_parting(other, one), parting)
            self.assertEqual(self.same(are_alike, one, other), parting is None)
            paper = self.same(alike_paper, one, other)
            self.assertEqual(self.same(check_alike, one, other, paper), paper[0])
            self.assertEqual(paper[0], "alike" if parting is None else "part")
            if parting is not None:
                tick, voice = parting
                self.refused(BadPaper, "part", check_alike, one, other, ("part", tick - 1, 0))
                if voice is not None:
                    self.assertNotEqual(sound_at(one, voice, tick), sound_at(other, voice, tick))
                    self.assertEqual(sound_at(one, voice, tick - 1), sound_at(other, voice, tick - 1))
                self.refused(BadPaper, "alike", check_alike, one, other, ("alike", ((("runs",),) * 700,)))
            seen.append(parting is None)
        self.assertEqual((any(seen), all(seen)), (True, False))

    def grown(self):
        """A SCORE of two voices, of more than 10 ** 26 ticks, without a period."""
        score = (("block", (((0, 1), (None, 2), (3, 1)), ((5, 4),))),
                 ("block", (((None, 2), (2, 1)), ((None, 1), (1, 2)))))
        while len(score) < 34:
            at = len(score)
            score += (("ends", at - 1, (at - 2, at - 1, at - 1, at - 2) if at % 3 != 1 else (at - 1, at - 2, at - 1, at - 1)),)
        return score

    def test_without_a_period(self):
        score = self.grown()
        lengths = sign_lengths(score)
        self.assertGreater(lengths[-1], 10 ** 26)
        last = len(score) - 1
        part, ends = score[last][1:]
        other = score[:last] + (("then", part, ends[0]), ("then", part, ends[1]), ("then", last, last + 1),
                                ("ends", part, ends[2:]), ("then", last + 2, last + 3))
        again = (score + (("again", last, 10 ** 12),), other + (("again", last + 4, 10 ** 11), ("again", last + 5, 10)))
        for one, more in ((score, other), again):
            self.assertTrue(are_alike(one, more))
            paper = alike_paper(one, more)
            self.assertEqual(check_alike(one, more, paper), "alike")
            self.assertLessEqual(max(len(laps) for laps in paper[1]), 700)
            self.refused(BadPaper, "alike", check_alike, one, more, ("alike", (paper[1][0][:-1], paper[1][1])))
            self.refused(BadPaper, "alike", check_alike, one, more, ("alike", (paper[1][1], paper[1][0])))
        longer = score[:last] + (("ends", part, ends[:3] + (part,)),)
        # What the part reads begins with what the last one of ENDS reads.
        self.assertEqual(first_parting(score, longer), (lengths[-1], None))
        swapped = score[:last] + (("turned", ends[3]), ("ends", part, ends[:3] + (last,)))
        tick, voice = first_parting(score, swapped)
        self.assertGreater(tick, 6 * lengths[part])
        self.assertIsNotNone(voice)
        self.assertNotEqual(sound_at(score, voice, tick), sound_at(swapped, voice, tick))
        for back in range(1, 100):
            self.assertEqual(sound_at(score, voice, tick - back), sound_at(swapped, voice, tick - back))
        self.assertEqual(check_alike(score, swapped, ("part", tick, voice)), "part")
        self.assertEqual(check_alike(score, swapped, alike_paper(score, swapped)), "part")

    def test_asking_for_two_hundred(self):
        """Scores that ask for many VARIED SIGNS, written in two ways."""
        score = (("block", (((0, 1), (None, 1)),)),)
        for at in range(1, 15, 2):
            score += (("up", at - 1, 1), ("then", at - 1, at))
        score += (("turned", 14), ("back", 15), ("ends", 14, (16, 15)))
        other = score[:-1] + (("then", 14, 16), ("then", 14, 15), ("then", 17, 18))
        self.assertGreater(len(asked_signs(score)), 190)
        paper = alike_paper(score, other)
        self.assertEqual(check_alike(score, other, paper), "alike")
        too_many = MANY + (("turned", 30), ("then", 30, 31))
        for call, rest in ((are_alike, ()), (first_parting, ()), (alike_paper, ()), (check_alike, (None,))):
            self.refused(TooMany, 200, call, too_many, None, *rest)
            self.refused(TooMany, 200, call, score, too_many, *rest)
            self.refused(BadScore, None, call, None, too_many, *rest)
            self.refused(BadScore, 1, call, (A, None), None, *rest)
            self.refused(BadScore, 0, call, score, (None,), *rest)

    def test_papers_of_laps(self):
        one, other = (A, ("again", 0, 6)), (B, REST, ("then", 0, 1), ("again", 2, 3), ("then", 3, 3))
        # The letters are 0, a rest, and 1, the stroke.
        for laps in ((("pairs", (1,)), ("runs",)), (("pairs", (1, 5, 10 ** 900)), ("runs",), ("runs",)),
                     (("pairs", ()), ("pairs", (0, 1)), ("pairs", (1,)), ("pairs", (1, 2)), ("runs",), ("pairs", (3,))),
                     (("pairs", (0,)), ("pairs", (1,)), ("pairs", (3,)), ("runs",)),
                     (("runs",), ("pairs", (0,)), ("runs",), ("pairs", (1,)), ("pairs", (4,))),
                     (("runs",),) * 698 + (("pairs", (1,)), ("runs",))):
            holds = plain.holds(one, other, ("alike", (laps,)))
            if holds:
                self.assertEqual(check_alike(one, other, ("alike", (laps,))), "alike", laps)
            else:
                self.refused(BadPaper, "alike", check_alike, one, other, ("alike", (laps,)))
        self.refused(BadPaper, "alike", check_alike, one, other, ("alike", ((("runs",),) * 699 + (("pairs", (1,)), ("runs",)),)))

    def test_any_laps_against_the_plain_reading(self):
        """Laps by chance, also such that leave runs uncompressed, judged letter by letter."""
        held = 0
        for start in range(400):
            numbers = making.Numbers(start + 77)
            one = making.score(numbers, 1, 2 + numbers.below(7), 60)
            other = rewritten(one, numbers)
            laps, count = [], len(set(unfolded(one)[0]))
            for _ in range(3 + numbers.below(14)):
                if numbers.below(3) == 0:
                    laps.append(("runs",))
                else:
                    laps.append(("pairs", tuple(at for at in range(count + len(laps)) if numbers.below(2))))
            paper = ("alike", (tuple(laps),))
            if plain.holds(one, other, paper):
                held += 1
                self.assertEqual(check_alike(one, other, paper), "alike", (one, other, paper))
            else:
                self.refused(BadPaper, "alike", check_alike, one, other, paper)
        self.assertGreater(held, 60)
        self.assertLess(held, 340)

    def test_numbers_of_new_letters(self):
        """New letters are numbered in their order, on from those that stand nowhere any more."""
        letters = ("block", (((0, 1), (1, 1), (2, 1), (3, 1)),))
        one = (letters,)
        right = (("pairs", (0, 2)), ("pairs", (4,)))
        self.assertEqual(check_alike(one, one, ("alike", (right,))), "alike")
        self.refused(BadPaper, "alike", check_alike, one, one, ("alike", ((("pairs", (0, 2)), ("pairs", (5,))),)))
        runs = (("block", (((1, 1), (1, 1), (0, 1), (0, 1), (0, 1), (0, 1), (1, 1), (1, 1), (1, 1)),)),)
        # By runs: (0, 4) is 2, (1, 2) is 3, (1, 3) is 4.
        self.assertEqual(check_alike(runs, runs, ("alike", ((("runs",), ("pairs", (3,)), ("pairs", (5,))),))), "alike")
        self.refused(BadPaper, "alike", check_alike, runs, runs,
                     ("alike", ((("runs",), ("pairs", (3,)), ("pairs", (4,))),)))
        rests = (("block", (((-60, 1), (None, 3), (5, 1), (None, 2)),)),)
        # Rests come first, by their LONG: 0 and 1; then the others.
        self.assertEqual(check_alike(rests, rests, ("alike", ((("pairs", (2, 3)), ("pairs", (4,))),))), "alike")
        self.assertEqual(check_alike(rests, rests, ("alike", ((("pairs", (1, 2)), ("pairs", (2,)), ("pairs", (5,))),))), "alike")

    def test_forms(self):
        one = (A,)
        laps = (("pairs", (1,)),)
        self.assertEqual(check_alike(one=one, other=one, paper=("alike", (laps,))), "alike")
        for odd in ODD + ("alike", ["alike", (laps,)], ("alike",), ("alike", (laps,), 1), ("part", 0), ("part", 0, 0, 0),
                          ["part", 0, 0], ("runs", 1), (("alike",), 1), ("Alike", (laps,)), ("part", (laps,)), ("alike", 0, 0)):
            self.refused(BadPaper, "form", check_alike, one, one, odd)
        for odd in (None, 3, (), [laps], laps, (laps, laps), ((("pairs", [1]),),), ((("pairs", (True,)),),), ((("pairs", (1, 1)),),),
                    ((("pairs", (1, 0)),),), ((("pairs", (-1, 1)),),), ((("pairs", 1),),), ((("pairs",),),), ((("runs", ()),),),
                    (("runs",),), ([("pairs", (1,))],), ((["pairs", (1,)],),), ((("pears", (1,)),),), ((("runs",), 0),), ((),),
                    ((("pairs", ("1",)),),), "a", (None,), ("ab",)):
            self.refused(BadPaper, "alike", check_alike, one, one, ("alike", odd))

    def test_part_papers(self):
        one, other = (TWO, ("again", 0, 2)), (TWO, ("up", 0, 1), ("then", 0, 1), ("then", 2, 0))
        held = {("part", tick, voice) for tick in range(-2, 12) for voice in (None, -1, 0, 1, 2)
                if plain.holds(one, other, ("part", tick, voice))}
        self.assertIn(("part", 6, None), held)
        self.assertIn(("part", 3, 0), held)
        for tick in range(-2, 12):
            for voice in (None, -1, 0, 1, 2):
                paper = ("part", tick, voice)
                if paper in held:
                    self.assertEqual(check_alike(one, other, paper), "part")
                    self.assertEqual(check_alike(other, one, paper), "part")
                else:
                    self.refused(BadPaper, "part", check_alike, one, other, paper)
        for tick in (None, True, False, "3", (3,), [3], 10 ** 999, -10 ** 999):
            for voice in (None, 0):
                self.refused(BadPaper, "part", check_alike, one, other, ("part", tick, voice))
        for voice in (True, False, "0", (0,), [0], 10 ** 999):
            self.refused(BadPaper, "part", check_alike, one, other, ("part", 3, voice))
        # One is over at 6, and from 9 on both are.
        self.assertEqual(check_alike(one, other, ("part", 8, None)), "part")
        self.refused(BadPaper, "part", check_alike, one, other, ("part", 9, None))

    def test_part_papers_with_other_voices(self):
        four = (("block", A[1] * 4),)
        for voice in (2, 3):
            self.assertEqual(check_alike(four, (TWO,), ("part", 0, voice)), "part")
            self.assertEqual(check_alike((TWO,), four, ("part", 0, voice)), "part")
        for tick, voice in ((0, 0), (0, 1), (0, 4), (0, None), (1, 2), (-1, 2), (False, 2), (0, True), (None, 2), (3, 2), (3, None)):
            self.refused(BadPaper, "part", check_alike, four, (TWO,), ("part", tick, voice))
        laps = (("pairs", (1,)),)
        for many in range(1, 5):
            self.refused(BadPaper, "alike", check_alike, four, (TWO,), ("alike", (laps,) * many))
        # Also where those that both have are the same.
        self.refused(BadPaper, "alike", check_alike, (A,), (TWO,), ("alike", (laps,)))
        self.refused(BadPaper, "alike", check_alike, (TWO,), (A,), ("alike", (laps,)))
        self.assertEqual(alike_paper(four, (TWO,)), ("part", 0, 2))

    def test_unlike_single_letters(self):
        for other in (("block", (((0, 2), (None, 2)),)), ("block", (((1, 2), (None, 1)),)), ("block", (((0, 1), (None, 2)),))):
            letters = sorted({(0, 2)} | {one for one in other[1][0] if one[0] is not None})
            rests = {(None, 1)} | {one for one in other[1][0] if one[0] is None}
            left = tuple(len(rests) + at for at in range(len(letters)))
            self.assertEqual(check_alike((other,), (other,), ("alike", ((("pairs", (1,)),),))), "alike")
            self.refused(BadPaper, "alike", check_alike, (A,), (other,), ("alike", ((("pairs", left),),)))


if __name__ == "__main__":
    unittest.main()

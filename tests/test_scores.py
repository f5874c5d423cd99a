"""Scores: [100] to [103], and tacthouse.scores."""

import unittest

from tacthouse.errors import BadScore, TooMany
from tacthouse.scores import asked_signs, need_score, sign_lengths, unfolded, voices_of
from tests import making, plain
from tests.refusing import NO_INTEGERS, ODD, Refusing

FUNCTIONS = (need_score, voices_of, sign_lengths, asked_signs, unfolded)
A = ("block", (((0, 1), (None, 2)),))
TWO = ("block", (((0, 2),), ((None, 1), (7, 1))))
TOP = (0, False, False, 1)


class Scores(Refusing, unittest.TestCase):
    def bad(self, place, score):
        for call in FUNCTIONS:
            self.refused(BadScore, place, call, score)

    def test_arguments(self):
        self.assertIs(need_score((A,))[0], A)
        self.assertEqual(need_score(thing=(A,)), (A,))
        for call in FUNCTIONS[1:]:
            self.assertEqual(call(score=(A,)), call((A,)))

    def test_one_block(self):
        self.assertEqual((voices_of((A,)), sign_lengths((A,))), (1, (3,)))
        self.assertEqual(asked_signs((A,)), (((0,) + TOP, 1),))
        self.assertEqual(unfolded((A,)), (((0, 1), (None, 2)),))
        self.assertEqual((voices_of((TWO,)), unfolded((TWO,))), (2, (((0, 2),), ((None, 1), (7, 1)))))

    def test_every_word_by_itself(self):
        block = ("block", (((0, 1), (None, 2), (5, 3)), ((1, 2), (None, 4))))
        other = ("block", (((-3, 1),), ((None, 1),)))
        for sign, first in ((("then", 0, 1), ((0, 1), (None, 2), (5, 3), (-3, 1))),
                            (("again", 0, 2), ((0, 1), (None, 2), (5, 3)) * 2),
                            (("up", 0, -4), ((-4, 1), (None, 2), (1, 3))),
                            (("turned", 0), ((0, 1), (None, 2), (-5, 3))),
                            (("back", 0), ((5, 3), (None, 2), (0, 1))),
                            (("slow", 0, 3), ((0, 3), (None, 6), (5, 9))),
                            (("ends", 0, (1, 0)), ((0, 1), (None, 2), (5, 3), (-3, 1)) + ((0, 1), (None, 2), (5, 3)) * 2)):
            score = (block, other, sign)
            self.assertEqual(unfolded(score)[0], first)
            self.assertEqual(unfolded(score), (plain.word(score, 0), plain.word(score, 1)))
            self.assertEqual(sign_lengths(score), tuple(plain.length(score, at) for at in range(3)))

    def test_against_the_plain_reading(self):
        used = set()
        for start in range(250):
            numbers = making.Numbers(start)
            voices = 1 + numbers.below(3)
            score = making.score(numbers, voices, 2 + numbers.below(10))
            used.update(sign[0] for sign in score)
            self.assertEqual(self.same(need_score, score), score)
            self.assertEqual(self.same(voices_of, score), voices)
            self.assertEqual(self.same(unfolded, score), tuple(plain.word(score, voice) for voice in range(voices)))
            self.assertEqual(self.same(sign_lengths, score), tuple(plain.length(score, at) for at in range(len(score))))
            self.assertEqual(self.same(asked_signs, score), plain.asked(score))
        self.assertEqual(used, set(making.WORDS))

    def test_fact_of_the_lengths(self):
        for start in range(60):
            score = making.score(making.Numbers(start), 1, 12)
            lengths = sign_lengths(score)
            blocks = [(varied, often) for varied, often in asked_signs(score) if score[varied[0]][0] == "block"]
            self.assertEqual(sum(lengths[varied[0]] * varied[4] * often for varied, often in blocks), lengths[-1])

    def test_varied_signs(self):
        score = (A, ("up", 0, 5), ("turned", 1), ("back", 2), ("slow", 3, 2), ("up", 4, 1), ("then", 5, 0))
        self.assertEqual(asked_signs(score), (
            ((0, -4, True, True, 2), 1), ((0, 0, False, False, 1), 1), ((1, 1, True, True, 2), 1),
            ((2, 1, False, True, 2), 1), ((3, 1, False, False, 2), 1), ((4, 1, False, False, 1), 1),
            ((5,) + TOP, 1), ((6,) + TOP, 1)))
        turned = (A, ("up", 0, 5), ("turned", 1))
        self.assertEqual(asked_signs(turned), (((0, -5, True, False, 1), 1), ((1, 0, True, False, 1), 1), ((2,) + TOP, 1)))
        ends = (A, TWO[:1] + ((((4, 1),),),), ("ends", 0, (1, 1, 0)), ("again", 2, 10 ** 12))
        self.assertEqual(asked_signs(ends), (((0,) + TOP, 4 * 10 ** 12), ((1,) + TOP, 2 * 10 ** 12),
                                             ((2,) + TOP, 10 ** 12), ((3,) + TOP, 1)))

    def test_rests_go_over_joints(self):
        score = (("block", (((None, 1), (0, 1), (None, 1)),)), ("block", (((None, 2),),)), ("then", 0, 1), ("again", 2, 2),
                 ("ends", 1, (3, 1)))
        self.assertEqual(unfolded(score), (((None, 3), (0, 1), (None, 4), (0, 1), (None, 7)),))
        self.assertEqual(unfolded((score[1], ("again", 0, 5))), (((None, 10),),))

    def test_very_long_ones(self):
        long = (A, ("again", 0, 10 ** 12), ("again", 1, 10 ** 12), ("again", 2, 10 ** 12), ("again", 3, 3333))
        self.assertEqual(sign_lengths(long)[-1], 9999 * 10 ** 36)
        self.assertEqual(asked_signs(long)[0], ((0,) + TOP, 3333 * 10 ** 36))
        self.refused(TooMany, 2000, unfolded, long)
        exact = (("block", (((1, 1),),)),) + tuple(("again", at, 10 ** 10) for at in range(4))
        self.assertEqual(sign_lengths(exact)[-1], 10 ** 40)
        self.bad(5, exact + (("then", 4, 0),))
        self.bad(5, exact + (("slow", 4, 2), ("then", 0, 0)))

    def test_unfolded_counts_rests_as_they_stand(self):
        rests = ("block", (((None, 1), (None, 1)),))
        self.assertEqual(unfolded((rests, ("again", 0, 1000))), (((None, 2000),),))
        self.refused(TooMany, 2000, unfolded, (rests, ("again", 0, 1000), A, ("then", 1, 2)))
        both = ("block", (((None, 1),), ((1, 1),)))
        self.assertEqual(unfolded((both, ("again", 0, 1000)))[0], ((None, 1000),))
        self.refused(TooMany, 2000, unfolded, (both, ("again", 0, 1001)))
        # What no sign names does not count.
        self.assertEqual(unfolded((rests, ("again", 0, 5000), A)), (((0, 1), (None, 2)),))

    def test_no_tuple_of_signs(self):
        for odd in ODD + (A, [A], (A,) * 41, 3, "ab"):
            if odd != () and isinstance(odd, tuple) and len(odd) <= 40:
                self.bad(0, odd)
            else:
                for call in FUNCTIONS:
                    self.refused(BadScore, None, call, odd)
        self.assertEqual(voices_of((A,) * 40), 1)

    def test_blocks(self):
        def block(*rows):
            return (("block", rows),)

        fine = [block(((-60, 96), (60, 96))), block(((None, 16),) * 12), block(((None, 1),) * 12), block(*(((0, 1),),) * 4), block(((0, 1), (0, 2)), ((1, 3),))]
        for score in fine:
            need_score(score)
        for rows in ((((61, 1),),), (((-61, 1),),), (((0, 97),),), (((0, 0),),), (((0, -1),),), (((True, 1),),), (((0, True),),),
                     (((0, None),),), (((0,),),), (((0, 1, 1),),), (([0, 1],),), ([(0, 1)],), ((),), (), (((None, 1),) * 13,),
                     (((0, 1),),) * 5, (((0, 1),), ((0, 2),)), (((0, 96), (0, 96), (0, 1)),), ("ab",), (((False, 1),),),
                     ((("0", 1),),), 3, None):
            self.bad(0, (("block", rows),))
        for sign in ODD + (("Block", A[1]), ("block", A[1], 1), ["block", A[1]], (b"block", A[1]), (0, A[1]), (("block",), A[1]), (["block"], A[1]), ({}, 0)):
            self.bad(0, (sign,))
            self.bad(1, (A, sign))

    def test_numbers_in_signs(self):
        for word, rest in (("then", (0,)), ("again", (1,)), ("up", (1,)), ("turned", ()), ("back", ()), ("slow", (2,)), ("ends", ((0,),))):
            need_score((A, (word, 0) + rest))
            self.bad(0, ((word, 0) + rest,))
            self.bad(1, (A, (word, 0) + rest + (0,)))
            self.bad(1, (A, (word,)))
            self.bad(1, (A, [word, 0] + list(rest)))
            self.bad(1, (A, (word.upper(), 0) + rest))
            for part in NO_INTEGERS + (1, -1, 2, 10 ** 900):
                self.bad(1, (A, (word, part) + rest))
        for third in NO_INTEGERS + (1, -1):
            self.bad(1, (A, ("then", 0, third)))
        for third in NO_INTEGERS + (0, -1, 10 ** 12 + 1):
            self.bad(1, (A, ("again", 0, third)))
        for third in NO_INTEGERS + (25, -25):
            self.bad(1, (A, ("up", 0, third)))
        for third in NO_INTEGERS + (1, 0, 4):
            self.bad(1, (A, ("slow", 0, third)))
        for third in (None, 0, (), [0], (0,) * 5, (1,), (-1,), (True,), ((0,),), "0"):
            self.bad(1, (A, ("ends", 0, third)))
        need_score((A, ("again", 0, 10 ** 12), ("up", 0, 24), ("up", 0, -24), ("ends", 0, (0, 1, 2, 3))))

    def test_what_signs_read(self):
        high = ("block", (((60, 1),),))
        self.bad(1, (high, ("up", 0, 1)))
        need_score((high, ("up", 0, -24), ("up", 1, 24)))
        low = ("block", (((-60, 1), (None, 1)),))
        self.bad(1, (low, ("up", 0, -1)))
        self.bad(2, (low, ("turned", 0), ("up", 1, 1)))
        self.bad(3, (low, ("turned", 0), ("then", 0, 1), ("up", 2, 1), ("up", 2, -1)))
        half = ("block", (((50, 1), (0, 1)),))
        self.bad(2, (half, ("turned", 0), ("up", 1, -11)))
        self.bad(3, (half, ("turned", 0), ("turned", 1), ("up", 2, 11)))
        need_score((half, ("turned", 0), ("up", 1, -10), ("up", 1, 24), ("up", 3, 24), ("up", 4, 12)))
        self.bad(4, (half, ("turned", 0), ("up", 1, 24), ("up", 2, 24), ("up", 3, 13)))
        rest = ("block", (((None, 5),),))
        need_score((rest,) + tuple(("up", at, 24) for at in range(39)))
        slow = ("block", (((1, 33), (None, 1)),))
        self.bad(1, (slow, ("slow", 0, 3)))
        need_score((slow, ("slow", 0, 2)))
        self.bad(2, (slow, ("slow", 0, 2), ("slow", 1, 2)))
        need_score((("block", (((None, 32),),)), ("slow", 0, 3)))
        self.bad(1, (("block", (((None, 33),),)), ("slow", 0, 3)))
        # Also of a sign that no further one names.
        self.bad(1, (high, ("up", 0, 1), high))

    def test_voices(self):
        self.bad(1, (A, TWO))
        self.bad(1, (TWO, A, ("up", 7, 1)))
        self.bad(2, (A, ("again", 0, 2), TWO))

    def asking(self, many):
        """A SCORE that asks for so many VARIED SIGNS."""
        score, by = (("block", (((None, 1),),)),), 1
        while len(plain.asked(score)) < many:
            at = len(score) - 1
            trial = score + (("up", at, by), ("then", at, at + 1))
            by = by % 5 + 1
            score = trial if len(plain.asked(trial)) <= many else score + (("back", at),)
        return score

    def test_two_hundred(self):
        for many in (200, 201):
            score = self.asking(many)
            self.assertEqual((len(plain.asked(score)), len(score) < 40), (many, True))
            if many == 200:
                self.assertEqual(len(asked_signs(score)), 200)
                self.assertEqual(asked_signs(score), plain.asked(score))
            else:
                for call in FUNCTIONS:
                    self.refused(TooMany, 200, call, score)
                self.bad(len(score), score + (("up", 0, 25),))
                # Signs that are not asked for do not count.
                need_score(score + (("turned", 0),))

    def test_very_many(self):
        """A SCORE that would ask for more than anybody could count."""
        score = (("block", (((None, 1),),)),)
        for _ in range(9):
            at = len(score) - 1
            score += (("up", at, 24), ("turned", at + 1), ("back", at + 2), ("ends", at, (at + 1, at + 2, at + 3)))
        for call in FUNCTIONS:
            self.refused(TooMany, 200, call, score)


if __name__ == "__main__":
    unittest.main()

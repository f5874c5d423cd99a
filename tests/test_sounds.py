"""What is heard: [104], [105], and tacthouse.sounds."""

import unittest

from tacthouse.errors import BadNumber, BadScore, BadTick, BadVoice, TooMany
from tacthouse.sounds import begin_of, heard_all, next_begin, note_count, sound_at, sounding
from tests import making, plain
from tests.refusing import NO_INTEGERS, Refusing

A = ("block", (((0, 2), (None, 1)),))
VERY = (("block", (((None, 2), (3, 1), (3, 2), (None, 1)), ((None, 6),))), ("again", 0, 10 ** 12), ("again", 1, 10 ** 12),
        ("again", 2, 10 ** 12), ("again", 3, 1666))
LONG = 6 * 1666 * 10 ** 36
MANY = (("block", (((None, 1),),)),) + tuple(
    sign for at in range(1, 30, 2) for sign in (("up", at - 1, at % 7 + 1), ("then", at - 1, at)))


class Sounds(Refusing, unittest.TestCase):
    def test_against_the_plain_reading(self):
        for start in range(120):
            numbers = making.Numbers(start + 1000)
            voices = 1 + numbers.below(3)
            score = making.score(numbers, voices, 2 + numbers.below(11), 80)
            length = plain.length(score)
            for voice in range(voices):
                begins, sounds = plain.begins(score, voice), plain.sounds(score, voice)
                self.assertEqual(self.same(note_count, score, voice), len(begins))
                self.assertEqual([self.same(begin_of, score, voice, at) for at in range(len(begins))], begins)
                self.assertEqual([self.same(sound_at, score, voice, tick) for tick in range(length)], sounds)
                for tick in range(length):
                    later = [begin for begin in begins if begin >= tick]
                    self.assertEqual(next_begin(score, voice, tick), later[0] if later else None)
                pitches = [pitch for pitch, _ in sounds if pitch is not None]
                self.assertEqual(self.same(sounding, score, voice),
                                 tuple((pitch, pitches.count(pitch)) for pitch in sorted(set(pitches))))
            for tick in range(length):
                self.assertEqual(self.same(heard_all, score, tick),
                                 tuple(plain.heard(score, voice, tick) for voice in range(voices)))

    def test_arguments(self):
        score = (A, ("again", 0, 2))
        self.assertEqual(note_count(score=score, voice=0), 2)
        self.assertEqual(begin_of(score=score, voice=0, number=1), 3)
        self.assertEqual(next_begin(score=score, voice=0, tick=1), 3)
        self.assertEqual(sound_at(score=score, voice=0, tick=4), (0, False))
        self.assertEqual(heard_all(score=score, tick=2), ((None, 0, 1),))
        self.assertEqual(sounding(score=score, voice=0), ((0, 4),))

    def test_very_long(self):
        last = 1666 * 10 ** 36 - 1
        self.assertEqual((note_count(VERY, 0), note_count(VERY, 1)), (2 * last + 2, 0))
        self.assertEqual([begin_of(VERY, 0, at) for at in (0, 1, 2, 2 * last, 2 * last + 1)],
                         [2, 3, 8, 6 * last + 2, 6 * last + 3])
        self.assertEqual([next_begin(VERY, 0, 6 * last + at) for at in range(6)],
                         [6 * last + 2] * 3 + [6 * last + 3] + [None] * 2)
        self.assertIsNone(next_begin(VERY, 1, 0))
        self.assertEqual([sound_at(VERY, 0, 6 * 10 ** 30 + at) for at in range(6)],
                         [(None, False), (None, False), (3, True), (3, True), (3, False), (None, False)])
        self.assertEqual(heard_all(VERY, 0), ((None, 0, 2), (None, 0, LONG)))
        self.assertEqual(heard_all(VERY, 6 * 10 ** 30), ((None, 1, 2), (None, 6 * 10 ** 30, LONG - 6 * 10 ** 30)))
        self.assertEqual(heard_all(VERY, LONG - 1), ((None, 0, 1), (None, LONG - 1, 1)))
        self.assertEqual(heard_all(VERY, LONG - 2)[0], (3, 1, 1))
        self.assertEqual((sounding(VERY, 0), sounding(VERY, 1)), (((3, 3 * last + 3),), ()))

    def test_backwards_and_slow(self):
        score = VERY + (("back", 4), ("turned", 5))
        self.assertEqual(begin_of(score, 0, 0), 1)
        self.assertEqual([sound_at(score, 0, at) for at in range(6)],
                         [(None, False), (-3, True), (-3, False), (-3, True), (None, False), (None, False)])
        slow = VERY[:4] + (("slow", 3, 3), ("up", 4, 2))
        self.assertEqual(heard_all(slow, 18 * 10 ** 35 + 9)[0], (5, 0, 6))

    def test_rests_over_joints_of_ends(self):
        rest = ("block", (((None, 4),),))
        score = (A, rest, ("again", 1, 10 ** 12), ("ends", 2, (2, 0)))
        self.assertEqual(heard_all(score, 10 ** 12), ((None, 10 ** 12, 11 * 10 ** 12),))
        self.assertEqual(heard_all(score, 12 * 10 ** 12 + 2), ((None, 0, 1),))
        self.assertEqual(next_begin(score, 0, 0), 12 * 10 ** 12)

    def test_two_hundred_and_more(self):
        calls = ((note_count, 0), (begin_of, 0, 0), (next_begin, 0, 0), (sound_at, 0, 0), (heard_all, 0), (sounding, 0))
        for call, *rest in calls:
            self.refused(TooMany, 200, call, MANY + (("turned", 30), ("then", 30, 31)), *rest)

    def test_errors(self):
        score = (A, ("up", 0, 1))
        for call, *rest in ((note_count,), (begin_of, 0), (next_begin, 0), (sound_at, 0), (sounding,)):
            for odd in NO_INTEGERS + (-1, 1, 10 ** 900):
                self.refused(BadVoice, odd, call, score, odd, *rest)
                # The SCORE is looked at first, then the VOICE.
                self.refused(BadVoice, odd, call, score, odd, *[None for _ in rest])
                self.refused(BadScore, None, call, None, odd, *rest)
                self.refused(BadScore, 1, call, (A, A + (1,)), odd, *rest)
                self.refused(TooMany, 200, call, MANY + (("turned", 30), ("then", 30, 31)), odd, *rest)
        for odd in NO_INTEGERS + (-1, 1, 10 ** 900):
            self.refused(BadNumber, odd, begin_of, score, 0, odd)
        self.refused(BadNumber, 0, begin_of, VERY, 1, 0)
        for odd in NO_INTEGERS + (-1, 3, 10 ** 900):
            self.refused(BadTick, odd, next_begin, score, 0, odd)
            self.refused(BadTick, odd, sound_at, score, 0, odd)
            self.refused(BadTick, odd, heard_all, score, odd)
            self.refused(BadScore, 0, heard_all, (None,), odd)
        self.refused(BadTick, LONG, sound_at, VERY, 0, LONG)


if __name__ == "__main__":
    unittest.main()

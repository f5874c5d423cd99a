"""Playings, matches and slips: [800] to [802], and tacthouse.slips."""

import itertools
import unittest

from tacthouse.errors import BadNumber, BadPaper, BadPlaying, BadScore, BadVoice, TooMany
from tacthouse.slips import best_match, check_match, least_slips, slip_place_at, slip_places, slips_from
from tests import making, playing
from tests.refusing import NO_INTEGERS, ODD, Refusing
from tests.test_units import MANY_TIMES, SCORE, TOO_MANY, VERY, A

WORDS = ("same", "other", "more", "less")
PLAYED = ((0, 0), (2, 5))
CALLS = ((least_slips, ()), (best_match, ()), (slip_places, ()), (slip_place_at, (None,)), (slips_from, (None,)), (check_match, (None, None)))


def pitches(score, voice):
    return [pitch for pitch, _, _ in playing.notes(score, voice)]


def slips_of(heard, played, note, match):
    """The SLIPS of a MATCH from a NOTE on, None of what is none, by the words of [801]."""
    pair, at, slips = 0, note, 0
    if not match or match[0] == "less" or match[-1] == "less":
        return None
    for word in match:
        if word != "less":
            if pair == len(played):
                return None
            pair += 1
        if word != "more":
            if at == len(heard):
                return None
            at += 1
        if word == "same" and played[pair - 1][0] != heard[at - 1] or word == "other" and played[pair - 1][0] == heard[at - 1]:
            return None
        slips += word != "same"
    return slips if pair == len(played) and at > note else None


def plain_slips(heard, played, note):
    """As few SLIPS as a MATCH from a NOTE on has, by a plain table of pairs and NOTES."""
    many, notes = len(played), len(heard) - note
    far = 10 ** 9
    table = [[far] * (notes + 1) for _ in range(many + 1)]
    table[0][0], best = 0, far
    for pairs in range(many + 1):
        for at in range(notes + 1):
            here = table[pairs][at]
            if pairs and at:
                cost = int(played[pairs - 1][0] != heard[note + at - 1])
                here = min(here, table[pairs - 1][at - 1] + cost)
            if pairs:
                here = min(here, table[pairs - 1][at] + 1)
            if pairs == many and at:
                best = min(best, here)
            if pairs and at:
                here = min(here, table[pairs][at - 1] + 1)
            table[pairs][at] = here
    return best


def some_playing(numbers, heard):
    """A PLAYING that is much like some of the NOTES that are heard."""
    row = list(heard[numbers.below(len(heard) or 1):][:1 + numbers.below(8)])
    for _ in range(numbers.below(9)):
        at = numbers.below(len(row) + 1)
        if numbers.below(3):
            row[at:at + numbers.below(2)] = [numbers.below(7)]
        else:
            row[at:at + 1] = []
    row = (row or [numbers.below(3)])[:8]
    return tuple((pitch, 3 * at) for at, pitch in enumerate(row))


def no_playings():
    """Values that are no PLAYINGS."""
    return list(ODD) + [0, [(0, 0)], (0, 0), ((0, 0), None), ((0, 0), [1, 1]), ((0,),), ((0, 0, 0),), ((None, 0),), ((61, 0),), ((-61, 0),), ((True, 0),), ((0, True),),
                        ((0, False),), ((0, None),), ((0, -1),), ((0, 10 ** 9 + 1),), ((0, 1), (0, 1)), ((0, 2), (0, 1)), tuple((0, at) for at in range(9)), (("0", 0),),
                        ((0, "0"),), (((0, 0),),)]


class Slips(Refusing, unittest.TestCase):
    def refuse(self, score, voice, played, note, match):
        self.refused(BadPaper, "match", check_match, score, voice, played, note, match)

    def test_arguments(self):
        self.assertEqual(least_slips(score=SCORE, voice=0, playing=PLAYED), 1)
        self.assertEqual(best_match(score=SCORE, voice=0, playing=PLAYED)[0], 0)
        self.assertEqual(slip_places(score=SCORE, voice=0, playing=PLAYED), 4)
        self.assertEqual(slip_place_at(score=SCORE, voice=0, playing=PLAYED, number=3), 3)
        self.assertEqual(slips_from(score=SCORE, voice=0, playing=PLAYED, note=1), 1)
        self.assertEqual(check_match(score=SCORE, voice=0, playing=PLAYED, note=1, thing=("same", "more")), 1)

    def test_against_a_plain_table(self):
        least, counts = {}, {"places": 0, "late": 0, "none": 0}
        for start in range(500):
            numbers = making.Numbers(start + 313)
            voices = 1 + numbers.below(2)
            score = making.score(numbers, voices, 1 + numbers.below(10), 80)
            voice = numbers.below(voices)
            heard = pitches(score, voice)
            played = some_playing(numbers, heard)
            if not heard:
                counts["none"] += 1
                self.assertIsNone(self.same(least_slips, score, voice, played))
                self.assertIsNone(self.same(best_match, score, voice, played))
                self.assertEqual(self.same(slip_places, score, voice, played), 0)
                for call, rest in CALLS[3:]:
                    self.refused(BadNumber, 0, call, score, voice, played, 0, *rest[1:])
                continue
            told = [plain_slips(heard, played, note) for note in range(len(heard))]
            places = [note for note, slips in enumerate(told) if slips == min(told)]
            self.assertEqual(self.same(least_slips, score, voice, played), min(told), (score, voice, played))
            self.assertEqual(self.same(slip_places, score, voice, played), len(places))
            for number, place in enumerate(places):
                self.assertEqual(slip_place_at(score, voice, played, number), place, (score, voice, played, number))
            self.refused(BadNumber, len(places), slip_place_at, score, voice, played, len(places))
            for note in range(0, len(heard), 1 + len(heard) // 10):
                self.assertEqual(self.same(slips_from, score, voice, played, note), told[note])
            note, match = self.same(best_match, score, voice, played)
            self.assertEqual(note, places[0])
            self.assertEqual(slips_of(heard, played, note, match), min(told), (heard, played, match))
            self.assertEqual(check_match(score, voice, played, note, match), min(told))
            least[min(told)] = least.get(min(told), 0) + 1
            counts["places"] += len(places) > 3
            counts["late"] += places[0] > 3
        self.assertTrue(min(least.get(slips, 0) for slips in (0, 1, 2, 3, 4)) > 8 and min(counts.values()) > 4, (least, counts))

    def test_all_matches_of_few_words(self):
        """Word by word: each row of up to four words against the point."""
        counts = {True: 0, False: 0}
        for start in range(24):
            numbers = making.Numbers(start + 70)
            score = making.score(numbers, 1, 3, 12)
            heard = pitches(score, 0)
            if not heard:
                continue
            played = some_playing(numbers, heard)[:3]
            for many in range(1, 5):
                for match in itertools.product(WORDS, repeat=many):
                    for note in {0, len(heard) - 1}:
                        told = slips_of(heard, played, note, match)
                        counts[told is not None] += 1
                        if told is None:
                            self.refuse(score, 0, played, note, match)
                        else:
                            self.assertEqual(check_match(score, 0, played, note, match), told)
                            self.assertLessEqual(slips_from(score, 0, played, note), told)
        self.assertTrue(min(counts.values()) > 50, counts)

    def test_what_is_a_match(self):
        score = (("block", (((0, 1), (1, 1), (2, 1), (None, 4), (3, 1)),)),)
        played = ((0, 0), (2, 1), (9, 2))
        self.assertEqual(check_match(score, 0, played, 0, ("same", "less", "same", "other")), 2)
        self.assertEqual(check_match(score, 0, played, 0, ("same", "less", "same", "more")), 2)
        # The first NOTE behind words "more".
        self.assertEqual(check_match(score, 0, played, 2, ("more", "same", "other")), 2)
        self.assertEqual(check_match(score, 0, played, 3, ("more", "more", "other")), 3)
        self.assertEqual(check_match(score, 0, played, 3, ("more", "less", "more", "more")), 4)
        self.assertEqual(check_match(score, 0, played, 0, ("more", "less", "less", "less", "less", "more", "more")), 7)
        for match in (("more", "more", "more"), ("less", "same", "same", "more"), ("same", "more", "more", "less"), ("same", "less", "same"), ("same", "more"),
                      ("same", "less", "same", "other", "more"), ("other", "less", "same", "other"), ("same", "same", "other"), ("same", "less", "other", "other"),
                      ("more", "less", "less", "less", "less", "less", "more", "more"), ()):
            self.refuse(score, 0, played, 0, match)
        self.refuse(score, 0, played, 3, ("more", "same", "other"))
        self.refuse(score, 0, played, 3, ("other", "other", "more"))
        for odd in ODD + ("same", ["same", "less", "same", "other"], ("same", "less", "same", "Other"), ("same", None, "same", "other"), ("same", b"less", "same", "other"),
                          ("same", ("less",), "same", "other"), (0, 1, 2), ("same", "less", "same", ""), ("same", ["less"], "same", "more")):
            self.refuse(score, 0, played, 0, odd)
        # Rests are no NOTES.
        self.assertEqual(least_slips(score, 0, ((1, 0), (2, 1), (3, 2))), 0)
        self.assertEqual(best_match(score, 0, ((1, 0), (2, 1), (3, 2))), (1, ("same",) * 3))

    def test_one_pair(self):
        score = (("block", (((0, 1), (1, 1), (0, 1)),)),)
        self.assertEqual(least_slips(score, 0, ((0, 7),)), 0)
        self.assertEqual([slip_place_at(score, 0, ((0, 7),), number) for number in (0, 1)], [0, 2])
        self.assertEqual(slips_from(score, 0, ((0, 7),), 1), 1)
        self.assertEqual(least_slips(score, 0, ((5, 7),)), 1)
        self.assertEqual(slip_places(score, 0, ((5, 7),)), 3)
        self.assertEqual(best_match(score, 0, ((5, 7),)), (0, ("other",)))
        self.refuse(score, 0, ((0, 7),), 0, ("more",))
        self.refuse(score, 0, ((0, 7),), 0, ("more", "less"))

    def test_how_far_a_match_goes(self):
        """As few slips as any over 2 M - 1 NOTES; over the end of parts and of the score."""
        played = tuple((pitch, pitch) for pitch in range(8))
        row = tuple((pitch, 1) for pitch in (0, 40, 1, 41, 2, 42, 3, 43, 4, 44))
        score = (("block", (row,)), ("block", (((45, 1), (5, 1), (46, 1), (6, 1), (47, 1), (7, 1)),)), ("then", 0, 1), ("block", (((50, 1),),)), ("again", 3, 50), ("ends", 4, (2, 3)))
        heard = pitches(score, 0)
        told = [plain_slips(heard, played, note) for note in range(len(heard))]
        self.assertEqual(least_slips(score, 0, played), min(told))
        self.assertEqual([slips_from(score, 0, played, note) for note in range(len(heard))], told)
        self.assertEqual(slip_places(score, 0, played), told.count(min(told)))
        self.assertEqual(slip_place_at(score, 0, played, 0), told.index(min(told)))
        # Where a single NOTE is left.
        end = (("block", (((50, 1),),)), ("again", 0, 10 ** 12), ("block", (((0, 1),),)), ("then", 1, 2))
        self.assertEqual(least_slips(end, 0, played), 7)
        self.assertEqual(best_match(end, 0, played), (10 ** 12, ("same",) + ("more",) * 7))
        back = tuple((7 - pitch, time) for pitch, time in played)
        self.assertEqual(best_match(end, 0, back)[0], 10 ** 12 - 7)
        self.assertEqual(slips_from(end, 0, back, 10 ** 12), 7)
        self.assertEqual(slips_from(end, 0, back, 10 ** 12 - 8), 8)
        self.assertEqual(slips_from(end, 0, back, 0), 8)
        self.assertEqual(slip_places(end, 0, back), 8)
        self.assertEqual([slip_place_at(end, 0, back, number) for number in range(8)], [10 ** 12 - at for at in range(7, -1, -1)])

    def test_very_long(self):
        # Two notes of 3 in each round, all alike.
        count = 2 * MANY_TIMES
        played = ((3, 0), (3, 9), (4, 10), (3, 11))
        self.assertEqual(least_slips(VERY, 0, played), 1)
        self.assertEqual(slip_places(VERY, 0, played), count - 2)
        self.assertEqual([slip_place_at(VERY, 0, played, number) for number in (0, 10 ** 38, count - 3)], [0, 10 ** 38, count - 3])
        self.refused(BadNumber, count - 2, slip_place_at, VERY, 0, played, count - 2)
        self.assertEqual([slips_from(VERY, 0, played, count - at) for at in (4, 3, 2, 1)], [1, 1, 2, 3])
        self.assertEqual(check_match(VERY, 0, played, count - 3, ("same", "same", "more", "same")), 1)
        self.refuse(VERY, 0, played, count - 3, ("same", "same", "other", "same"))
        walk = (("block", (((0, 1), (5, 2), (None, 1), (7, 1)),)),) + tuple(("again", at, 10 ** 12) for at in range(3)) + (("up", 3, 1), ("then", 3, 4), ("back", 5))
        half = 3 * 10 ** 36
        # 7 of the first half and 1 of the second one stand side by side once.
        joint = ((5, 0), (7, 1), (1, 2), (6, 4), (8, 9))
        self.assertEqual((least_slips(walk[:6], 0, joint), slip_places(walk[:6], 0, joint)), (0, 1))
        self.assertEqual(best_match(walk[:6], 0, joint), (half - 2, ("same",) * 5))
        self.assertEqual(slip_place_at(walk[:6], 0, joint, 0), half - 2)
        back = tuple((pitch, at) for at, (pitch, _) in enumerate(joint[::-1]))
        self.assertEqual(best_match(walk, 0, back), (half - 3, ("same",) * 5))
        few = [8, 6, 1] * 9 + [7, 5, 0] * 9
        self.assertEqual(least_slips(walk, 0, joint), min(plain_slips(few, joint, note) for note in range(len(few))))
        again = ((7, 0), (0, 1), (5, 2), (7, 3))
        self.assertEqual(slip_places(walk[:6], 0, again), 10 ** 36 - 1)
        self.assertEqual([slip_place_at(walk[:6], 0, again, number) for number in (0, 1, 10 ** 35, 10 ** 36 - 2)], [2, 5, 3 * 10 ** 35 + 2, half - 4])
        less = ((0, 0), (7, 1), (0, 2))
        self.assertEqual((least_slips(walk[:6], 0, less), slip_places(walk[:6], 0, less)), (1, 3 * 10 ** 36 - 3))
        self.assertEqual(slip_places(walk[:4], 0, less), 3 * 10 ** 36 - 3)
        heard = [0, 5, 7] * 9
        self.assertEqual([plain_slips(heard, less, note) for note in (0, 1, 2, 24, 25, 26)], [1, 1, 1, 2, 2, 2])

    def test_errors(self):
        for call, rest in CALLS:
            self.refused(BadScore, None, call, None, None, None, *rest)
            self.refused(BadScore, 1, call, (A, None), None, None, *rest)
            self.refused(TooMany, 200, call, TOO_MANY, None, None, *rest)
            for odd in NO_INTEGERS + (-1, 1, 10 ** 900):
                self.refused(BadVoice, odd, call, SCORE, odd, None, *rest)
            for odd in no_playings():
                self.refused(BadPlaying, odd, call, SCORE, 0, odd, *rest)
        for odd in NO_INTEGERS + (-1, 4, 10 ** 900):
            self.refused(BadNumber, odd, slip_place_at, SCORE, 0, PLAYED, odd)
            self.refused(BadNumber, odd, slips_from, SCORE, 0, PLAYED, odd)
            self.refused(BadNumber, odd, check_match, SCORE, 0, PLAYED, odd, None)


if __name__ == "__main__":
    unittest.main()

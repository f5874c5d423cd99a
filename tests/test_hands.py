"""Instruments, fingerings and papers on the least price: [700] to [703], and tacthouse.hands."""

import unittest

from tacthouse.errors import BadFingering, BadInstrument, BadNumber, BadPaper, BadScore, BadVoice, TooMany
from tacthouse.hands import (check_hand, fingering, hand_paper, is_fingering, least_price, need_instrument, place_at, price_of,
                             price_table)
from tests import making, playing
from tests.refusing import NO_INTEGERS, ODD, Refusing
from tests.test_units import SCORE, TOO_MANY, A

HAND = (((0, 2, 4), (0, 5)), ((0, 1), (1, 0)), ((1, 10), (10, 3)))
LONG = (("block", (((0, 1), (None, 1), (5, 1), (2, 1)),)),)
# 1,000 EVENTS with a PITCH in each of two VOICES, and one more.
JUST = (("block", (((0, 1),) * 10, ((0, 1),) * 10)), ("again", 0, 100))
MORE = JUST + (("block", (((0, 1),), ((None, 1),))), ("then", 1, 2))
ALL = ((least_price, ()), (price_table, ()), (place_at, (0,)), (fingering, ()), (is_fingering, ((),)), (price_of, ((),)), (hand_paper, ()), (check_hand, (None,)))
SHORT = ALL[3:]


def is_bound_right(made, row, bounds):
    """Whether BOUNDS are as told in [703]."""
    sounds, moves, prices = made
    places = range(len(sounds))
    if len(bounds) != len(row):
        return False
    for at, (pitch, begin, _) in enumerate(row):
        for place in places:
            bound = bounds[at][place]
            if pitch not in sounds[place]:
                if bound is not None:
                    return False
                continue
            if at == 0:
                if bound is None or bound > 0:
                    return False
                continue
            ahead = [one for one in places if bounds[at - 1][one] is not None and moves[one][place] <= begin - row[at - 1][2]]
            if ahead and (bound is None or any(bound > bounds[at - 1][one] + prices[one][place] for one in ahead)):
                return False
    return True


def holds(made, row, paper):
    """Whether a PAPER of the right shape holds."""
    if not is_bound_right(made, row, paper[-1]):
        return False
    last = [bound for bound in paper[-1][-1] if bound is not None] if row else [0]
    if paper[0] == "none":
        return bool(row) and not last
    cost = playing.price(made, row, paper[1])
    return cost is not None and bool(last) and cost == min(last)


class Hands(Refusing, unittest.TestCase):
    def hold(self, score, voice, made):
        """The paper that is told holds; it."""
        paper = self.same(hand_paper, score, voice, made)
        self.assertTrue(holds(made, playing.notes(score, voice), paper))
        self.assertEqual(self.same(check_hand, score, voice, made, paper), paper[0])
        return paper

    def refuse(self, place, score, voice, made, paper):
        self.refused(BadPaper, place, check_hand, score, voice, made, paper)

    def test_arguments(self):
        self.assertIs(need_instrument(thing=HAND), HAND)
        self.assertEqual(least_price(score=LONG, voice=0, instrument=HAND), None)
        slow = LONG[:1] + (("slow", 0, 2), ("back", 1))
        self.assertEqual(least_price(score=slow[:2], voice=0, instrument=HAND), None)
        one = (("block", (((0, 1), (None, 1), (5, 1), (None, 1), (2, 1)),)),)
        self.assertEqual(least_price(score=one, voice=0, instrument=HAND), 13)
        self.assertEqual(price_table(score=one, voice=0, instrument=HAND), ((20, None), (13, None)))
        self.assertEqual([place_at(score=one, voice=0, instrument=HAND, number=number) for number in range(3)], [1, 1, 0])
        self.assertEqual(fingering(score=one, voice=0, instrument=HAND), (1, 1, 0))
        self.assertIs(is_fingering(score=one, voice=0, instrument=HAND, value=(0, 1, 0)), True)
        self.assertEqual(price_of(score=one, voice=0, instrument=HAND, fingering=(0, 1, 0)), 20)
        paper = hand_paper(score=one, voice=0, instrument=HAND)
        self.assertEqual(check_hand(score=one, voice=0, instrument=HAND, paper=paper), "least")

    def test_against_all_fingerings(self):
        counts = {"none": 0, "least": 0, "empty": 0, "two": 0}
        for start in range(500):
            numbers = making.Numbers(start + 600)
            voices = 1 + numbers.below(2)
            score = making.score(numbers, voices, 1 + numbers.below(6), 14)
            voice, places = numbers.below(voices), 1 + numbers.below(4)
            made = playing.instrument(numbers, places)
            row = playing.notes(score, voice)
            if places ** len(row) > 3000:
                continue
            found = playing.fingerings(made, row)
            best = min(found.values(), default=None)
            self.assertEqual(self.same(least_price, score, voice, made), best, (score, voice, made))
            told = self.same(fingering, score, voice, made)
            paper = self.hold(score, voice, made)
            if best is None:
                counts["none"] += 1
                self.assertIsNone(told)
                self.assertEqual(paper[0], "none")
                self.assertEqual([place_at(score, voice, made, number) for number in range(len(row))], [None] * len(row))
                continue
            counts["least" if row else "empty"] += 1
            counts["two"] += list(found.values()).count(best) > 1
            self.assertEqual(found[told], best)
            self.assertEqual(paper[:2], ("least", told))
            at_all = tuple(self.same(place_at, score, voice, made, number) for number in range(len(row)))
            self.assertEqual(found[at_all], best)
            for trial in list(found)[:20]:
                self.assertIs(is_fingering(score, voice, made, trial), True)
                self.assertEqual(price_of(score, voice, made, trial), found[trial])
            if row:
                rows = [[None] * places for _ in range(places)]
                for trial, cost in found.items():
                    one, other = trial[0], trial[-1]
                    rows[one][other] = cost if rows[one][other] is None else min(cost, rows[one][other])
                self.assertEqual(self.same(price_table, score, voice, made), tuple(tuple(line) for line in rows))
                self.wrong_fingerings(score, voice, made, row, found)
            else:
                self.assertIsNone(self.same(price_table, score, voice, made))
        self.assertTrue(min(counts.values()) > 30, counts)

    def wrong_fingerings(self, score, voice, made, row, found):
        told = next(iter(found))
        for at in range(len(row)):
            for place in range(-1, len(made[0]) + 1):
                trial = told[:at] + (place,) + told[at + 1:]
                self.assertIs(is_fingering(score, voice, made, trial), trial in found)
                if trial not in found:
                    self.refused(BadFingering, trial, price_of, score, voice, made, trial)

    def test_longer_ones_against_a_plain_going(self):
        for start in range(120):
            numbers = making.Numbers(start + 44)
            score = making.score(numbers, 1 + numbers.below(2), 4 + numbers.below(10), 150)
            made = playing.instrument(numbers, 1 + numbers.below(6), often=6, slowest=3)
            row = playing.notes(score, 0)
            self.assertEqual(least_price(score, 0, made), playing.least(made, row), (score, made))
            if row:
                self.assertEqual(price_table(score, 0, made), playing.table(made, row))
            told = tuple(place_at(score, 0, made, number) for number in range(len(row)))
            if playing.least(made, row) is not None:
                self.assertEqual(playing.price(made, row, told), playing.least(made, row))
            else:
                self.assertEqual(told, (None,) * len(row))
            self.hold(score, 0, made)

    def test_it_hangs_on_the_sound_alone(self):
        other = (("block", (((0, 1), (None, 1)),)), ("block", (((None, 1), (2, 1), (None, 2)),)), ("then", 0, 1))
        one = (("block", (((0, 1), (None, 2), (2, 1), (None, 1), (None, 1)),)),)
        self.assertEqual(price_table(one, 0, HAND), price_table(other, 0, HAND))
        # Two EVENTS with one PITCH side by side are not one.
        self.assertEqual(least_price((("block", (((2, 2),),)),), 0, HAND), 0)
        self.assertEqual(least_price((("block", (((2, 1), (2, 1)),)),), 0, HAND), 1)

    def test_moves(self):
        """Just as many ticks as they tell are enough, also within one PLACE."""
        for rest in range(1, 97):
            score = (("block", (((0, 1), (None, rest), (5, 1)),)),)
            for move in (rest - 1, rest, rest + 1):
                if move <= 96:
                    made = (((0,), (5,)), ((0, move), (0, 0)), ((0, 7), (0, 0)))
                    self.assertEqual(least_price(score, 0, made), 7 if move <= rest else None)
        stay = (((0,),), ((1,),), ((4,),))
        self.assertIsNone(least_price((("block", (((0, 1), (0, 1)),)),), 0, stay))
        self.assertEqual(least_price((("block", (((0, 1), (None, 1), (0, 1)),)),), 0, stay), 4)
        # Rests of several parts are put together.
        made = (((0,), (5,)), ((0, 96), (0, 0)), ((0, 7), (0, 0)))
        a, rest, b = ("block", (((None, 9), (0, 1), (None, 2)),)), ("block", (((None, 1),),)), ("block", (((None, 3), (5, 1)),))
        for many, told in ((90, None), (91, 7), (10 ** 12, 7)):
            self.assertEqual(least_price((a, rest, b, ("again", 1, many), ("then", 0, 3), ("then", 4, 2)), 0, made), told)

    def test_no_notes(self):
        score = (("block", (((None, 3),), ((0, 3),))), ("again", 0, 10 ** 12))
        self.assertEqual(least_price(score, 0, HAND), 0)
        self.assertIsNone(price_table(score, 0, HAND))
        self.assertEqual(fingering(score[:1], 0, HAND), ())
        self.assertEqual(self.hold(score[:1], 0, HAND), ("least", (), ()))
        self.assertIs(is_fingering(score[:1], 0, HAND, ()), True)
        self.assertEqual(price_of(score[:1], 0, HAND, ()), 0)
        for odd in NO_INTEGERS + (0, -1):
            self.refused(BadNumber, odd, place_at, score, 0, HAND, odd)
        self.refuse("none", score[:1], 0, HAND, ("none", ()))
        self.refuse("least", score[:1], 0, HAND, ("least", (), ((0, 0),)))
        self.refuse("least", score[:1], 0, HAND, ("least", (0,), ()))
        # No place has any sound.
        mute = (((), ()), HAND[1], HAND[2])
        self.assertIsNone(least_price(LONG, 0, mute))
        self.assertEqual(price_table(LONG, 0, mute), ((None, None), (None, None)))
        self.assertEqual(least_price(score, 0, mute), 0)

    def test_very_long(self):
        made = (((0, 4), (0, 7)), ((0, 0), (0, 0)), ((1, 5), (3, 8)))
        score = (("block", (((0, 1), (4, 1), (None, 1)), ((7, 3),))),) + tuple(("again", at, 10 ** 12) for at in range(3)) + (("again", 3, 3333),)
        times = 3333 * 10 ** 36
        # At 0 both times: 1 from each to each.
        self.assertEqual(least_price(score, 0, made), 2 * times - 1)
        self.assertEqual(price_table(score, 0, made), ((2 * times - 1, None), (2 * times + 1, None)))
        self.assertEqual(least_price(score, 1, made), 8 * (times - 1))
        self.assertEqual([place_at(score, 0, made, number) for number in (0, 1, 10 ** 39, 2 * times - 1)], [0] * 4)
        self.assertEqual({place_at(score, 1, made, number) for number in (0, 1, 10 ** 30, times - 1)}, {1})
        for number in (2 * times, -1, 10 ** 900):
            self.refused(BadNumber, number, place_at, score, 0, made, number)
        # 4 at 0 and 7 at 1: there and back each time.
        both = (("block", (((4, 1), (7, 1)),)),) + score[1:]
        self.assertEqual(least_price(both, 0, made), 5 * times + 3 * (times - 1))
        self.assertEqual([place_at(both, 0, made, number) for number in (10 ** 39, 10 ** 39 + 1)], [0, 1])
        self.assertEqual(least_price(both + (("back", 4),), 0, made), 3 * times + 5 * (times - 1))
        self.assertIsNone(least_price(both + (("up", 4, 1),), 0, made))
        self.assertIsNone(place_at(both + (("up", 4, 1),), 0, made, 10 ** 39))
        slow = (made[0], ((0, 2), (0, 0)), made[2])
        self.assertIsNone(least_price(both, 0, slow))
        self.assertEqual(place_at(both, 0, slow, 0), None)
        apart, fewer = (("block", (((4, 1), (None, 2), (7, 1)),)),) + score[1:4], 10 ** 36
        self.assertEqual(least_price(apart, 0, slow), 5 * fewer + 3 * (fewer - 1))

    def test_all_numbers_are_of_one_fingering(self):
        """Where many are as cheap as one another."""
        free = (((0,), (0,), (0,)), ((0, 0, 0), (1, 0, 0), (0, 2, 0)), ((1, 0, 0), (0, 1, 0), (0, 0, 1)))
        for many in (1, 2, 3, 5, 8, 13, 40, 64, 97):
            for row in (((0, 1),), ((0, 1), (None, 1)), ((0, 1), (0, 1), (None, 2))):
                score = (("block", (row,)), ("again", 0, many), ("then", 1, 0), ("ends", 2, (0, 1)))
                notes = playing.notes(score, 0)
                told = tuple(place_at(score, 0, free, number) for number in range(len(notes)))
                self.assertEqual(playing.price(free, notes, told), least_price(score, 0, free), (many, row))

    def test_short_scores(self):
        """2,000 EVENTS in all VOICES, rests too, and one more."""
        one = (((0,),), ((0,),), ((1,),))
        self.assertEqual(fingering(JUST, 1, one), (0,) * 1000)
        self.assertEqual(price_of(JUST, 0, one, (0,) * 1000), 999)
        self.assertEqual(self.hold(JUST, 0, one)[0], "least")
        rests = (("block", (((None, 1),) * 10, ((None, 1),) * 10)), ("again", 0, 100))
        self.assertEqual(fingering(rests, 1, one), ())
        for call, rest in SHORT:
            self.refused(TooMany, 2000, call, MORE, 0, one, *rest)
            self.refused(TooMany, 2000, call, rests + MORE[2:], 1, one, *rest)
            # Behind the errors of the other arguments, ahead of a fingering and a paper.
            for odd in (None, True, [0]):
                self.refused(BadVoice, odd, call, MORE, odd, None, *rest)
                self.refused(BadInstrument, "form", call, MORE, 0, odd, *rest)
            if rest:
                for odd in ODD:
                    self.refused(TooMany, 2000, call, MORE, 0, one, odd)
        for call, rest in ALL[:3]:
            call(MORE, 0, one, *rest)

    def test_what_is_a_fingering(self):
        score = (("block", (((0, 1), (None, 1), (5, 1)),)),)
        for odd in ODD + (0, [0, 1], (0,), (0, 1, 1), (0, None), (False, 1), (0, True), (0, "1"), (-2, 1), (0, 2), (0, 10 ** 900), ((0, 1),)):
            self.assertIs(is_fingering(score, 0, HAND, odd), False)
            self.refused(BadFingering, odd, price_of, score, 0, HAND, odd)
            self.refuse("least", score, 0, HAND, ("least", odd, hand_paper(score, 0, HAND)[2]))
        self.assertIs(is_fingering(score, 0, HAND, (1, 1)), True)

    def test_papers(self):
        score = (("block", (((0, 1), (None, 1), (5, 1), (None, 1), (2, 1)),)),)
        self.assertEqual(self.hold(score, 0, HAND), ("least", (1, 1, 0), ((0, 0), (None, 3), (13, None))))
        rows = ((0, 0), (None, 3), (13, None))
        for told in (((0, -5), (None, -2), (8, None)), ((0, 0), (None, 3), (12, None)), ((0, 0), (None, 2), (12, None)), ((-7, 0), (None, 3), (13, None))):
            word = holds(HAND, playing.notes(score, 0), ("least", (1, 1, 0), told))
            self.assertEqual(word, told[2][0] == 13)
            if word:
                self.assertEqual(check_hand(score, 0, HAND, ("least", (1, 1, 0), told)), "least")
            else:
                self.refuse("least", score, 0, HAND, ("least", (1, 1, 0), told))
        # One that is not the cheapest; bounds that are too great, or missing, or where the pitch is not.
        self.refuse("least", score, 0, HAND, ("least", (0, 1, 0), rows))
        self.refuse("least", score, 0, HAND, ("least", (0, 1, 0), ((0, 7), (None, 10), (20, None))))
        for at, row in ((0, (1, 0)), (0, (0, 1)), (0, (None, 0)), (0, (0, None)), (1, (None, 4)), (1, (0, 3)), (1, (None, None)), (2, (14, None)), (2, (13, 0)), (2, (None, None)),
                        (1, (None, True)), (0, (False, 0)), (0, (0,)), (0, (0, 0, 0)), (0, [0, 0]), (0, None), (2, ("13", None)), (2, ((13, 1), None))):
            self.refuse("least", score, 0, HAND, ("least", (1, 1, 0), rows[:at] + (row,) + rows[at + 1:]))
        for odd in ODD + (rows[:2], rows + ((0, None),), list(rows)):
            self.refuse("least", score, 0, HAND, ("least", (1, 1, 0), odd))
        self.refuse("none", score, 0, HAND, ("none", rows))

    def test_papers_on_none(self):
        score = LONG
        self.assertEqual(self.hold(score, 0, HAND), ("none", ((0, 0), (None, 3), (None, None))))
        # Where no PLACE ahead leads to, any integer may be there, but then it goes on.
        slow = (((0, 5), (0, 5)), ((9, 9), (9, 9)), ((1, 2), (3, 4)))
        two = (("block", (((0, 1), (5, 1)),)),)
        self.assertEqual(self.hold(two, 0, slow), ("none", ((0, 0), (None, None))))
        three = (("block", (((0, 1), (5, 1), (7, 1)),)),)
        for row in ((None, None), (5, None), (10 ** 60, -10 ** 60), (0, 0)):
            self.assertEqual(check_hand(three, 0, slow, ("none", ((0, 0), row, (None, None)))), "none")
            if row != (None, None):
                self.refuse("none", two, 0, slow, ("none", ((0, 0), row)))
        self.refuse("none", two, 0, slow, ("none", ((0, None), (None, None))))
        self.refuse("none", two, 0, slow, ("none", ((0, 1), (None, None))))
        self.refuse("none", two, 0, slow, ("none", ()))
        self.refuse("least", two, 0, slow, ("least", (0, 0), ((0, 0), (None, None))))
        self.refuse("least", two, 0, slow, ("least", (0, 0), ((0, 0), (0, None))))
        for odd in ODD:
            self.refuse("none", two, 0, slow, ("none", odd))
            self.refuse("none", two, 0, slow, ("none", ((0, 0), odd)))

    def test_changed_papers(self):
        """Papers with something otherwise in them hold just if they are as told."""
        kept = {True: 0, False: 0}
        for start in range(250):
            numbers = making.Numbers(start + 7000)
            score = making.score(numbers, 1, 1 + numbers.below(5), 12)
            made, row = playing.instrument(numbers, 1 + numbers.below(3)), playing.notes(score, 0)
            paper = hand_paper(score, 0, made)
            if not row:
                continue
            for _ in range(12):
                at, place = numbers.below(len(row)), numbers.below(len(made[0]))
                bound = paper[-1][at][place]
                fresh = numbers.one_of((None, numbers.below(9) - 4, (bound or 0) - 1, (bound or 0) + 1))
                line = paper[-1][at][:place] + (fresh,) + paper[-1][at][place + 1:]
                other = paper[:-1] + (paper[-1][:at] + (line,) + paper[-1][at + 1:],)
                told = holds(made, row, other)
                kept[told] += 1
                if told:
                    self.assertEqual(check_hand(score, 0, made, other), paper[0])
                else:
                    self.refuse(paper[0], score, 0, made, other)
        self.assertTrue(min(kept.values()) > 100, kept)

    def test_forms_of_papers(self):
        rows = ((0, 0), (None, 3), (None, None))
        for odd in ODD + (("least",), ("least", ()), ("least", (), (), ()), ("none",), ("none", rows, ()), ["none", rows], ("None", rows), (None, rows), (("none",), rows)):
            self.refuse("form", LONG, 0, HAND, odd)

    def test_instruments(self):
        for made in (HAND, (((),), ((0,),), ((0,),)), ((tuple(range(24)),) * 6, ((96,) * 6,) * 6, ((10 ** 6,) * 6,) * 6), (((-60, 60),), ((96,),), ((0,),))):
            self.assertIs(need_instrument(made), made)
        for made, place in playing.no_instruments():
            self.refused(BadInstrument, place, need_instrument, made)
            for call, rest in ALL:
                self.refused(BadInstrument, place, call, SCORE, 0, made, *(None for _ in rest))
        for odd in ODD:
            self.refused(BadInstrument, "form", need_instrument, odd)

    def test_errors(self):
        for call, rest in ALL:
            nothing = tuple(None for _ in rest)
            self.refused(BadScore, None, call, None, None, None, *nothing)
            self.refused(BadScore, 1, call, (A, None), None, None, *nothing)
            self.refused(TooMany, 200, call, TOO_MANY, None, None, *nothing)
            for odd in NO_INTEGERS + (-1, 1, 10 ** 900):
                self.refused(BadVoice, odd, call, SCORE, odd, None, *nothing)
        for odd in NO_INTEGERS + (-1, 4, 10 ** 900):
            self.refused(BadNumber, odd, place_at, SCORE, 0, HAND, odd)


if __name__ == "__main__":
    unittest.main()

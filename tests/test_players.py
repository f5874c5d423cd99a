"""Crowds, sharings and rest states: [720] to [722], and tacthouse.players."""

import itertools
import unittest

from tacthouse.errors import BadPlayers, BadScore, BadState, TooMany
from tacthouse.players import can_share, greatest_crowd, is_sharing, need_players, rests_behind, sharing
from tests import making, plain, playing
from tests.refusing import NO_INTEGERS, ODD, Refusing
from tests.test_hands import JUST, MORE
from tests.test_units import SCORE, TOO_MANY, VERY, A

ANY = (-60, 60, 0)
CALLS = ((can_share, ()), (rests_behind, (None,)), (sharing, ()), (is_sharing, (None,)))


def some_players(numbers):
    """PLAYERS, who can play some of the PITCHES that making.score has."""
    made = []
    for _ in range(1 + numbers.below(3)):
        low = numbers.below(8) - 9 if numbers.below(3) else numbers.below(3)
        made.append((low, low + numbers.below(14), numbers.below(7) if numbers.below(2) else numbers.below(2)))
    return tuple(made)


def states(players):
    return list(itertools.product(*[range(breath + 1) for _, _, breath in players]))


def full(players):
    return tuple(breath for _, _, breath in players)


class Players(Refusing, unittest.TestCase):
    def test_arguments(self):
        players = ((-60, 60, 2),)
        self.assertIs(need_players(thing=players), players)
        self.assertEqual(greatest_crowd(score=SCORE), (1, 0))
        self.assertIs(can_share(score=SCORE, players=players), False)
        self.assertEqual(rests_behind(score=SCORE, players=((0, 0, 1),), state=(0,)), ())
        self.assertEqual(rests_behind(score=SCORE, players=((0, 0, 1),), state=(1,)), ((1,),))
        self.assertEqual(sharing(score=SCORE, players=(ANY,)), ((0, 0, 0, 0),))
        self.assertIs(is_sharing(score=SCORE, players=(ANY,), value=((0, 0, 0, 0),)), True)

    def test_crowds(self):
        seen = set()
        for start in range(300):
            numbers = making.Numbers(start + 61)
            score = making.score(numbers, 1 + numbers.below(4), 1 + numbers.below(11), 120)
            crowds = playing.crowds(score)
            told = self.same(greatest_crowd, score)
            self.assertEqual(told, (max(crowds), crowds.index(max(crowds))), score)
            seen.add((told[0], told[1] > 0))
        self.assertTrue({(many, late) for many in range(1, 5) for late in (True, False)} <= seen | {(1, True)}, seen)
        silent = (("block", (((None, 5),), ((None, 5),))), ("again", 0, 10 ** 12))
        self.assertEqual(greatest_crowd(silent), (0, 0))
        a, b = ("block", (((0, 2), (None, 1)), ((None, 1), (0, 2)))), ("block", (((None, 3),), ((1, 3),)))
        far = (b, a, ("again", 0, 10 ** 12), ("again", 2, 10 ** 12), ("then", 3, 1), ("again", 4, 10 ** 12))
        self.assertEqual(greatest_crowd(far), (2, 3 * 10 ** 24 + 1))
        self.assertEqual(greatest_crowd(far + (("back", 5), ("slow", 6, 3))), (2, 3))
        self.assertEqual(greatest_crowd(far[:3] + (("ends", 2, (0, 1, 1)),)), (2, 6 * 10 ** 12 + 4))
        self.assertEqual(greatest_crowd(VERY), (2, 2))

    def test_against_all_sharings(self):
        counts = {"shared": 0, "not": 0, "many": 0, "crowd": 0}
        for start in range(700):
            numbers = making.Numbers(start + 2)
            score = making.score(numbers, 1 + numbers.below(4), 1 + numbers.below(7), 12)
            players = some_players(numbers)
            notes = sum(len(playing.notes(score, voice)) for voice in range(plain.voices(score)))
            if len(players) ** notes > 800:
                continue
            all_there = [value for value in playing.sharings(score, players) if playing.does_share(score, players, value)]
            self.assertIs(self.same(can_share, score, players), bool(all_there), (score, players))
            told = self.same(sharing, score, players)
            counts["shared" if all_there else "not"] += 1
            counts["many"] += len(all_there) > 5
            counts["crowd"] += not all_there and max(playing.crowds(score)) <= len(players)
            if all_there:
                self.assertIn(told, all_there)
            else:
                self.assertIsNone(told)
            for at, value in enumerate(playing.sharings(score, players)):
                if at % (1 + len(players) ** notes // 20) == 0:
                    self.assertIs(is_sharing(score, players, value), value in all_there)
            every = states(players)
            for state in every[::1 + len(every) // 12] + [every[-1]]:
                behind = {playing.rests(score, players, value, state) for value in all_there if playing.does_share(score, players, value, state)}
                self.assertEqual(self.same(rests_behind, score, players, state), tuple(sorted(behind)), (score, players, state))
        self.assertTrue(min(counts.values()) > 20, counts)

    def test_longer_ones_tick_by_tick(self):
        """Rest states of scores that are put together are those of the parts, one behind the other."""
        both = {True: 0, False: 0}
        for start in range(150):
            numbers = making.Numbers(start + 17)
            voices = 1 + numbers.below(3)
            score, players = making.score(numbers, voices, 4 + numbers.below(6), 30), some_players(numbers)
            many = 1 + numbers.below(9)
            again = score + (("again", len(score) - 1, many),)
            there = {full(players)}
            for _ in range(many):
                there = {state for ahead in there for state in rests_behind(score, players, ahead)}
            self.assertEqual(rests_behind(again, players, full(players)), tuple(sorted(there)), (again, players))
            self.assertIs(can_share(again, players), bool(there))
            both[bool(there)] += 1
            told = sharing(again, players)
            if there:
                self.assertTrue(playing.does_share(again, players, told))
                self.assertIs(is_sharing(again, players, told), True)
            else:
                self.assertIsNone(told)
        self.assertTrue(min(both.values()) > 20, both)

    def test_the_crowd_is_enough_for_any_pitch(self):
        for start in range(150):
            numbers = making.Numbers(start + 5)
            score = making.score(numbers, 1 + numbers.below(4), 2 + numbers.below(9), 60)
            for many in (1, 2, 3):
                self.assertIs(can_share(score, (ANY,) * many), greatest_crowd(score)[0] <= many)

    def test_the_example(self):
        """[721]: at each tick the pitches can be given out, but not over all."""
        low, other, high = ((0, 6), (None, 3)), ((None, 4), (0, 5)), ((None, 1), (1, 1), (None, 5), (1, 1), (None, 1))
        score = (("block", (low, other, high)),)
        players = (ANY, (-60, 0, 0))
        self.assertEqual(greatest_crowd(score), (2, 1))
        self.assertIs(can_share(score, players), False)
        self.assertIsNone(sharing(score, players))
        self.assertIs(can_share(score, (ANY, ANY)), True)
        self.assertIs(can_share(score, players + ((0, 0, 0),)), True)
        for voices in ((low, other), (low, high), (other, high)):
            self.assertIs(can_share((("block", voices),), players), True)

    def test_breath(self):
        """So many ticks from the end of an EVENT to the next one, also over rests, blocks and repetitions."""
        for breath in range(7):
            for rest in range(8):
                row = ((0, 2), (None, rest), (0, 1)) if rest else ((0, 2), (0, 1))
                score = (("block", (row,)),)
                self.assertIs(can_share(score, ((0, 0, breath),)), rest >= breath)
                self.assertIs(is_sharing(score, ((0, 0, breath),), ((0, 0),)), rest >= breath)
                again = (("block", (((0, 2), (None, rest)) if rest else ((0, 2),),)), ("again", 0, 10 ** 12))
                self.assertIs(can_share(again, ((0, 0, breath),)), rest >= breath)
                self.assertIs(can_share(again, ((0, 0, breath),) * 2), 2 * rest + 2 >= breath)
                self.assertIs(can_share(again, ((0, 0, breath),) * 3), 3 * rest + 4 >= breath)
        score = (("block", (((None, 2), (0, 1)),)),)
        for state in range(7):
            told = rests_behind(score, ((0, 0, 6),), (state,))
            self.assertEqual(told, ((0,),) if state >= 4 else ())
        self.assertEqual(rests_behind((("block", (((None, 2),),)),), ((0, 0, 6), (0, 0, 1)), (3, 0)), ((5, 1),))
        self.assertEqual(rests_behind((("block", (((None, 2),),)), ("again", 0, 10 ** 12)), ((0, 0, 6), (0, 0, 0)), (3, 0)), ((6, 0),))

    def test_less_rest_is_worse(self):
        """The fact of [722]."""
        for start in range(80):
            numbers = making.Numbers(start + 23)
            score, players = making.score(numbers, 1 + numbers.below(3), 4, 20), some_players(numbers)
            every = states(players)
            shared = {state: bool(rests_behind(score, players, state)) for state in every[::1 + len(every) // 30]}
            for one, does in shared.items():
                for other in shared:
                    if does and all(rest >= less for rest, less in zip(other, one)):
                        self.assertTrue(shared[other])

    def test_players_in_turn(self):
        """What comes round only behind several times."""
        score = (("block", (((0, 1),),)), ("again", 0, 10 ** 12))
        self.assertEqual(rests_behind(score, ((0, 0, 2),) * 3, (2, 2, 2)), tuple(sorted(itertools.permutations((0, 1, 2)))))
        for many in (10 ** 12, 10 ** 12 - 1, 10 ** 12 - 2, 5, 4, 3, 2, 1):
            once = score[:1] + (("again", 0, many),)
            self.assertEqual(rests_behind(once, ((0, 0, 2),) * 3, (0, 1, 2)), ((many % 3, (many + 1) % 3, (many + 2) % 3),))
        self.assertIs(can_share(score, ((0, 0, 3),) * 3), False)
        self.assertIs(can_share(score[:1] + (("again", 0, 3),), ((0, 0, 3),) * 3), True)
        self.assertIs(can_share(score[:1] + (("again", 0, 4),), ((0, 0, 3),) * 3), False)
        # Where they come round behind some times ahead.
        for state in states(((0, 0, 2),) * 3):
            there = {state}
            for many in range(1, 15):
                there = {one for ahead in there for one in rests_behind(score[:1], ((0, 0, 2),) * 3, ahead)}
                once = score[:1] + (("again", 0, many),)
                self.assertEqual(rests_behind(once, ((0, 0, 2),) * 3, state), tuple(sorted(there)), (state, many))
        for many in range(1, 12):
            once = score[:1] + (("again", 0, many),)
            for players in (((0, 0, 2),) * 3, ((0, 0, 1), (0, 0, 3), (0, 0, 5)), ((0, 0, 1),) * 2, ((0, 0, 6), (0, 0, 1), (0, 0, 4))):
                there = {full(players)}
                for _ in range(many):
                    there = {state for ahead in there for state in rests_behind(score[:1], players, ahead)}
                self.assertEqual(rests_behind(once, players, full(players)), tuple(sorted(there)))

    def test_very_long(self):
        both = ((3, 3, 1), (4, 4, 0))
        self.assertIs(can_share(VERY, both), False)
        self.assertIs(can_share(VERY, ((3, 3, 0), (4, 4, 0))), True)
        self.assertIs(can_share(VERY, ((3, 3, 0), (4, 4, 1))), False)
        self.assertIs(can_share(VERY, ((3, 4, 0), (3, 4, 0))), True)
        # The voice 1 never rests: the other two take turns.
        self.assertIs(can_share(VERY, ((3, 3, 1), (3, 3, 4), (4, 4, 0))), True)
        self.assertEqual(rests_behind(VERY, ((3, 3, 1), (3, 3, 4), (4, 4, 0)), (1, 4, 0)), ((1, 1, 0), (1, 3, 0)))
        self.assertIs(can_share(VERY, ((3, 3, 4), (3, 3, 5), (4, 4, 0))), True)
        self.assertIs(can_share(VERY, ((3, 3, 5), (3, 3, 5), (4, 4, 0))), False)
        self.assertEqual(greatest_crowd(VERY), (2, 2))
        late = VERY[:4] + (("up", 3, 1), ("then", 3, 4))
        self.assertIs(can_share(late, ((3, 4, 0), (3, 4, 0))), False)
        self.assertIs(can_share(late, ((3, 4, 0), (4, 5, 0))), True)
        self.assertIs(can_share(late + (("turned", 5),), ((3, 4, 0), (4, 5, 0))), False)
        self.assertIs(can_share(late + (("turned", 5), ("back", 6)), ((-4, -3, 0), (-5, -4, 0))), True)

    def test_no_notes(self):
        silent = (("block", (((None, 5),), ((None, 5),))),)
        self.assertEqual(sharing(silent, (ANY,)), ((), ()))
        self.assertIs(is_sharing(silent, (ANY,), ((), ())), True)
        self.assertIs(is_sharing(silent, (ANY,), ((),)), False)
        self.assertIs(can_share(silent, ((0, 0, 6),)), True)

    def test_what_is_a_sharing(self):
        score = (("block", (((0, 1), (None, 1), (5, 1)), ((None, 2), (3, 1)))),)
        players = ((0, 5, 1), (3, 3, 0))
        self.assertEqual(sharing(score, players), ((0, 0), (1,)))
        self.assertIs(is_sharing(score, players, ((0, 0), (1,))), True)
        for odd in ODD + (0, [(0, 0), (1,)], ((0, 0),), ((0, 0), (1,), ()), ((0,), (1,)), ((0, 0, 0), (1,)), ((0, 0), ()), ((0, 0), (1, 1)), ([0, 0], (1,)),
                          ((0, 0), [1]), ((0, 1), (1,)), ((1, 0), (1,)), ((0, 0), (0,)), ((0, 0), (2,)), ((0, 0), (-1,)), ((0, 0), (True,)), ((False, 0), (1,)),
                          ((0, None), (1,)), ((0, "0"), (1,)), ((0, 10 ** 900), (1,)), (0, 0, 1), ((0, 0), 1)):
            self.assertIs(is_sharing(score, players, odd), False, odd)

    def test_short_scores(self):
        players = (ANY, ANY)
        told = sharing(JUST, players)
        self.assertIs(is_sharing(JUST, players, told), True)
        self.assertTrue(playing.does_share(JUST[:1] + (("again", 0, 5),), players, sharing(JUST[:1] + (("again", 0, 5),), players)))
        self.refused(TooMany, 2000, sharing, MORE, players)
        for odd in ODD:
            self.refused(TooMany, 2000, is_sharing, MORE, players, odd)
        for call in (sharing, is_sharing):
            rest = (None,) * (call is is_sharing)
            self.refused(BadPlayers, None, call, MORE, None, *rest)
        self.assertIs(can_share(MORE, players), True)
        self.assertEqual(rests_behind(MORE, players, (0, 0)), ((0, 0),))

    def test_players(self):
        for players in ((ANY,), ((0, 0, 6), (-60, -60, 0), (60, 60, 3))):
            self.assertIs(need_players(players), players)
        for players, place in playing.no_players():
            self.refused(BadPlayers, place, need_players, players)
            for call, rest in CALLS:
                self.refused(BadPlayers, place, call, SCORE, players, *rest)
        for odd in ODD:
            if not isinstance(odd, tuple) or not odd:
                self.refused(BadPlayers, None, need_players, odd)

    def test_errors(self):
        for call, rest in CALLS:
            self.refused(BadScore, None, call, None, None, *rest)
            self.refused(BadScore, 1, call, (A, None), None, *rest)
            self.refused(TooMany, 200, call, TOO_MANY, None, *rest)
        self.refused(BadScore, None, greatest_crowd, None)
        self.refused(BadScore, 1, greatest_crowd, (A, None))
        self.refused(TooMany, 200, greatest_crowd, TOO_MANY)
        players = ((0, 0, 1), (0, 0, 6))
        for odd in ODD + NO_INTEGERS + (0, [1, 6], (1,), (1, 6, 0), (2, 6), (1, 7), (-1, 0), (0, -1), (True, 0), (0, False), (0, None), ("0", 0), (0, 10 ** 900)):
            self.refused(BadState, odd, rests_behind, SCORE, players, odd)
        self.assertEqual(rests_behind(SCORE, players, (1, 0)), ((1, 1), (1, 4), (1, 6)))


if __name__ == "__main__":
    unittest.main()

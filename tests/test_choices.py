"""Scores with choices: [420], and tacthouse.choices."""

import unittest

from tacthouse.choices import can_be_kept, least_faults
from tacthouse.errors import BadChoices, BadRule, BadScore, TooMany
from tacthouse.faults import many_faults
from tests import making, plain, ruling
from tests.refusing import ODD, Refusing
from tests.test_sounds import MANY

WORDS = ("sounds", "silent", "begins", "pitch")
TWO = WORDS + ("apart", "class")
A = ("block", (((0, 2), (None, 1)),))
B = ("block", (((None, 1), (3, 1), (4, 1)),))
SCORE = (A, B, ("then", 0, 1), ("again", 1, 2))
FREE = (1, ((((), 0, 0),),))
SOUND = (1, ((((("sounds", 0),), 0, 1), ((), 0, 0)),))
TOO_MANY = MANY + (("turned", 30), ("then", 30, 31))


def readings(score, choices, number, memo):
    """All that a SIGN can read as, by all that can be chosen: tuples of a row of EVENTS for each voice."""
    if number in memo:
        return memo[number]
    sign, voices = score[number], plain.voices(score)
    word = sign[0]
    if word == "block":
        found = {tuple(sign[1])}
    elif word in ("then", "again", "ends"):
        parts = {"then": lambda: [sign[1], sign[2]], "again": lambda: [sign[1]] * sign[2],
                 "ends": lambda: [part for end in sign[2] for part in (sign[1], end)]}[word]()
        found = {((),) * voices}
        for part in parts:
            found = {tuple(row + more for row, more in zip(rows, later))
                     for rows in found for later in readings(score, choices, part, memo)}
            if len(found) > 3000:
                raise OverflowError
    else:
        made = {"up": lambda p, long: (p + sign[2], long), "turned": lambda p, long: (-p, long),
                "slow": lambda p, long: (p, long * sign[2]), "back": lambda p, long: (p, long)}[word]
        found = set()
        for rows in readings(score, choices, sign[1], memo):
            rows = [[(None, made(0, long)[1]) if pitch is None else made(pitch, long) for pitch, long in row] for row in rows]
            found.add(tuple(tuple(row[::-1] if word == "back" else row) for row in rows))
    for one, other in choices:
        if one == number:
            found = found | readings(score, choices, other, memo)
    memo[number] = found
    return found


def fewest(score, choices, made):
    counts = []
    for rows in readings(score, choices, len(score) - 1, {}):
        looked, _ = ruling.look(made, [ruling.ticks_of(row) for row in rows])
        counts.append(sum(fault for _, fault in looked))
    return min(counts), len(counts)


def choices_of(numbers, score):
    """CHOICES for a score, as many as there can be, some left out."""
    lengths = [plain.length(score, number) for number in range(len(score))]
    made = []
    for number in range(len(score)):
        same = [other for other in range(number) if lengths[other] == lengths[number]]
        if same and numbers.below(4):
            made.append((number, numbers.one_of(same)))
    return tuple(made)


class Choices(Refusing, unittest.TestCase):
    def test_arguments(self):
        self.assertEqual(least_faults(score=SCORE, choices=((1, 0),), rule=SOUND), 4)
        self.assertIs(can_be_kept(score=SCORE, choices=((1, 0),), rule=SOUND), False)

    def test_against_all_that_can_be_chosen(self):
        several, fewer, none = 0, 0, 0
        for start in range(700):
            numbers = making.Numbers(start + 50)
            voices = 1 + numbers.below(3)
            score = making.score(numbers, voices, 4 + numbers.below(7), 40)
            choices = choices_of(numbers, score)
            made = ruling.rule(numbers, voices, 1 + numbers.below(4), TWO if voices > 1 else WORDS, 2 + numbers.below(4), 1 + numbers.below(4))
            try:
                told, many = fewest(score, choices, made)
            except OverflowError:
                continue
            self.assertEqual(self.same(least_faults, score, choices, made), told, (score, choices, made))
            self.assertIs(self.same(can_be_kept, score, choices, made), told == 0)
            self.assertEqual(least_faults(score, (), made), many_faults(score, made))
            several += many > 3
            fewer += told < many_faults(score, made)
            none += told == 0
        self.assertGreater(min(several, fewer, none), 30)

    def test_each_time_anew(self):
        """In an again some times one, some times the other, and so on within it."""
        # Two like ones side by side are a fault.
        silent = ("block", (((None, 3),),))
        three, five = ("block", (((3, 1), (None, 2)),)), ("block", (((5, 1), (None, 2)),))
        alternate = (1, ((((("pitch", 0, 3, 3),), 1, 0), ((("sounds", 0),), 2, 0), ((), 0, 0)),
                         (((("pitch", 0, 3, 3),), 1, 1), ((("sounds", 0),), 2, 0), ((), 1, 0)),
                         (((("pitch", 0, 3, 3),), 1, 0), ((("sounds", 0),), 2, 1), ((), 2, 0))))
        for many in (1, 2, 7, 10 ** 12):
            score = (three, five, ("again", 1, many))
            self.assertEqual(least_faults(score, (), alternate), many - 1)
            self.assertEqual(least_faults(score, ((1, 0),), alternate), 0)
            # Both ways of choosing, one within the other: five, or three, or a rest.
            whole = (silent, three, five, ("again", 2, many))
            self.assertEqual(least_faults(whole, ((2, 1),), alternate), 0)
            self.assertEqual(least_faults(whole, ((1, 0), (2, 1)), SOUND), 0)
            self.assertEqual(least_faults(whole, ((2, 1),), SOUND), many)
            self.assertEqual(least_faults(whole, ((1, 0),), SOUND), many)

    def test_all_of_the_score(self):
        """The last SIGN, too, is asked for."""
        silent = ("block", (((None, 3),),))
        score = (silent, A, ("up", 1, 5))
        self.assertEqual(least_faults(score, ((2, 0),), SOUND), 0)
        self.assertEqual(least_faults(score, ((1, 0),), SOUND), 0)
        self.assertEqual(least_faults(score, (), SOUND), 2)
        # In the same way instead: moved, turned, backwards, slower.
        high = (1, ((((("pitch", 0, 5, 5),), 1, 0), ((("sounds", 0),), 0, 1), ((), 0, 0)), (((("pitch", 0, 4, 4),), 0, 0), ((), 0, 1))))
        two = ("block", (((1, 1), (0, 1), (None, 1)),)), ("block", (((None, 3),),)), ("block", (((9, 3),),))
        self.assertEqual(least_faults(two + (("up", 2, 4),), ((2, 0),), high), 0)
        self.assertEqual(least_faults(two + (("turned", 2), ("up", 3, 5)), ((2, 0),), high), 2)
        self.assertEqual(least_faults((("block", (((None, 1), (0, 1), (1, 1)),)),) + two[1:] + (("back", 2), ("up", 3, 4)), ((2, 0),), high), 0)

    def test_pitches_and_longs_of_any_size(self):
        """Whatever PITCHES and LONGS come where another one is chosen."""
        low, high = ("block", (((-60, 96),),)), ("block", (((60, 96),),))
        made = (1, ((((("pitch", 0, 61, 120),), 0, 0), ((), 0, 1)),))
        # -60 up 24 in the place of which 60 stands: 84.
        self.assertEqual(least_faults((high, low, ("up", 1, 24)), ((1, 0),), made), 0)
        self.assertEqual(least_faults((high, low, ("up", 1, 24)), (), made), 96)
        long = ("block", (((1, 96), (None, 96)),)), ("block", (tuple((0, 16) for _ in range(12)),))
        begins = (1, ((((("begins", 0),), 0, 1), ((), 0, 0)),))
        slow = long + (("slow", 1, 3), ("slow", 2, 2))
        self.assertEqual((least_faults(slow, (), begins), least_faults(slow, ((1, 0),), begins)), (12, 1))
        self.assertEqual(least_faults(slow, ((1, 0),), SOUND), 96 * 6)

    def test_very_long(self):
        rest = ("block", (((None, 3),), ((7, 3),)))
        note = ("block", (((0, 1), (None, 2)), ((7, 3),)))
        tower = (rest, note, ("again", 1, 10 ** 12), ("again", 2, 10 ** 12), ("again", 3, 10 ** 12), ("again", 4, 3333))
        rounds = 3333 * 10 ** 36
        # Of three rounds one has to sound.
        third = (2, ((((("sounds", 0),), 1, 1), ((), 3, 0)), ((((), 2, 0)),), ((((), 0, 0)),), ((((), 4, 0)),), (((), 5, 0),),
                     (((("sounds", 0),), 0, 1), ((), 0, 0))))
        self.assertEqual(least_faults(tower, (), third), rounds)
        self.assertEqual(least_faults(tower, ((1, 0),), third), 0)
        either = (2, ((((("begins", 0),), 3, 1), ((), 1, 0)), (((), 2, 0),), (((), 4, 0),), (((), 5, 0),),
                      (((("begins", 0),), 3, 1), ((), 3, 1)), (((), 0, 0),)))
        # From silence behind silence a fault, from each sounding one too: so a fault in each second round at least.
        small = [least_faults((rest, note, ("again", 1, many)), ((1, 0),), either) for many in range(1, 30)]
        for many, told in enumerate(small[:5], 1):
            self.assertEqual(fewest((rest, note, ("again", 1, many)), ((1, 0),), either)[0], told)
        gain = small[20] - small[10]
        self.assertEqual(least_faults(tower, ((1, 0),), either), small[19] + (rounds - 20) // 10 * gain)

    def test_too_many(self):
        """VARIED SIGNS that are asked for by any choice are counted."""
        for call in (least_faults, can_be_kept):
            self.refused(TooMany, 200, call, TOO_MANY, None, None)
        high = [("block", (((0, 1),),))]
        for at in range(1, 22):
            high.append(("up", at - 1, 1))
        high = tuple(high)
        every = tuple((at, at - 1) for at in range(1, 22))
        self.assertEqual(least_faults(high, (), FREE), 0)
        # Each SIGN is asked for at all heights from 0 to how many stand behind it: 19 of them 190 times, 20 of them 210 times.
        self.assertEqual(least_faults(high[:19], every[:18], FREE), 0)
        for call in (least_faults, can_be_kept):
            self.refused(TooMany, 200, call, high[:20], every[:19], FREE)
            self.refused(TooMany, 200, call, high, every, FREE)
        # Just 200, and one more.
        turned = high[:19] + tuple(("turned", at) for at in range(18, 29))
        self.assertEqual(least_faults(turned[:29], every[:18], FREE), 0)
        self.refused(TooMany, 200, least_faults, turned, every[:18], FREE)
        # Those above what can be chosen are asked for at one height alone.
        self.assertEqual(least_faults(high, every[:12], FREE), 0)
        # It is counted behind the errors of all arguments.
        self.refused(BadRule, None, least_faults, high, every, None)

    def test_errors(self):
        for call in (least_faults, can_be_kept):
            self.refused(BadScore, None, call, None, None, None)
            self.refused(BadScore, 1, call, (A, None), None, None)
            for odd in ODD + (0, [(1, 0)], (1, 0), ([1, 0],), ((1, 1),), ((0, 1),), ((0, 0),), ((2, 0),), ((1, 0), (1, 0)), ((3, 2), (1, 0)), ((1, 0, 0),),
                              ((1,),), ((True, 0),), ((1, False),), ((1, -1),), ((4, 0),), ((1, None),), ((None, 0),), ((3, 1),), ((10 ** 900, 0),)):
                if odd != ():
                    self.refused(BadChoices, odd, call, SCORE, odd, None)
            step = (1, ((((("step", 0, 0, 0),), 0, 0), ((), 0, 0)),))
            for odd in ODD + tuple(ruling.no_rules()) + (step, (2, FREE[1]), (3, FREE[1])):
                self.refused(BadRule, odd, call, SCORE, ((1, 0), (3, 2)), odd)
        self.assertEqual(least_faults(SCORE, (), FREE), 0)
        hidden = (1, ((((), 0, 0),), (((("step", 0, 0, 0),), 0, 0), ((), 0, 0))))
        self.refused(BadRule, hidden, least_faults, SCORE, (), hidden)


if __name__ == "__main__":
    unittest.main()

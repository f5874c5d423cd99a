"""Which rule follows from which: [410] to [412], and tacthouse.follows."""

import unittest

from tacthouse.errors import BadPaper, BadRule, BadSounds, TooMany
from tacthouse.follows import check_follow, does_follow, follow_paper, is_kept_by
from tests import ruling
from tests.making import Numbers
from tests.refusing import ODD, Refusing
from tests.test_rulings import faces, with_parts

FREE, NEVER = (((), 0, 0),), (((), 0, 1),)
ONE = ("sounds", "silent", "begins", "pitch", "step")


def forbids(voices, *tests):
    """A RULE by which each tick with one of these TESTS is a fault."""
    return (voices, (tuple((trial, 0, 1) for trial in tests) + (((), 0, 0),),))


def deeds(situation, voices, lot):
    """(what now has, what it begins, the SITUATION behind) for all that can be done, by the words of [411], [412].

    For one voice: the MOMENT has the last PITCH; for two a difference stands for each FACE.
    """
    found = []
    if voices == 1:
        sounds, last = situation
        before = last[0] if last else None
        if sounds:
            found.append((((before, False),), (before,), (True, last)))
        found.append((((None, False),), (before,), (False, last)))
        found.extend((((pitch, True),), (before,), (True, (pitch,))) for pitch in range(-12, 13))
        return found
    one, other, face = situation
    for word in ("on", "rest", "begin"):
        for answer in ("on", "rest", "begin"):
            if word == "on" and not one or answer == "on" and not other:
                continue
            both = word != "rest" and answer != "rest"
            for now in ([face] if word == answer == "on" else lot) if both else [None]:
                top = None if word == "rest" else 0 if now is None else now
                bottom = None if answer == "rest" else 0
                found.append((((top, word == "begin"), (bottom, answer == "begin")), (None, None),
                              (word != "rest", answer != "rest", now)))
    return found


def first(voices):
    return (0, 0, (False, ()) if voices == 1 else (False, False, None))


def table(rule, other):
    """All triples of [412] that can come; None if a fault of the RULE can come ahead of one of the other one."""
    voices = rule[0]
    lot = faces(rule, other) if voices == 2 else None
    found, waiting = {first(voices)}, [first(voices)]
    while waiting:
        state, own, situation = waiting.pop()
        for now, last, behind in deeds(situation, voices, lot):
            following, fault = ruling.tick(other, state, now, last)
            if not fault:
                mine, is_fault = ruling.tick(rule, own, now, last)
                if is_fault:
                    return None
                if (following, mine, behind) not in found:
                    found.add((following, mine, behind))
                    waiting.append((following, mine, behind))
    return tuple(sorted(found))


class Follows(Refusing, unittest.TestCase):
    def test_arguments(self):
        rule, other = forbids(1, (("step", 0, -12, -5),)), forbids(1, (("step", 0, -24, -1),))
        self.assertIs(does_follow(rule=rule, other=other), True)
        self.assertIs(does_follow(rule=other, other=rule), False)
        self.assertEqual(check_follow(rule=rule, other=other, paper=follow_paper(rule=rule, other=other)), "follows")
        self.assertIs(is_kept_by(rule=rule, sounds=(((5, 1), (0, 1)),)), False)

    def test_against_a_plain_search(self):
        counts = {(voices, told): 0 for voices in (1, 2) for told in (True, False)}
        for start in range(240):
            numbers = Numbers(start + 70)
            voices = 1 + start % 2
            words = ruling.PLAIN if voices == 2 else ONE
            often = 3 + numbers.below(4)
            rule = ruling.rule(numbers, voices, 1 + numbers.below(3), words, often + 4, 1 + numbers.below(4))
            other = ruling.rule(numbers, voices, 1 + numbers.below(3), words, often, 1 + numbers.below(4))
            if voices == 2 and len(faces(rule, other)) > 12:
                self.refused(TooMany, 12, does_follow, rule, other)
                continue
            told = table(rule, other)
            counts[(voices, told is not None)] += 1
            self.assertIs(self.same(does_follow, rule, other), told is not None, (rule, other))
            self.assertIs(does_follow(rule, rule), True)
            paper = self.same(follow_paper, rule, other)
            self.assertEqual(self.same(check_follow, rule, other, paper), paper[0])
            self.paper(rule, other, paper, told, numbers)
        self.assertTrue(all(count > 12 for count in counts.values()), counts)

    def paper(self, rule, other, paper, told, numbers):
        if told is None:
            self.assertEqual(paper[0], "not")
            self.assertIs(ruling.keeps(other, paper[1]), True)
            self.assertIs(ruling.keeps(rule, paper[1]), False)
            self.refused(BadPaper, "follows", check_follow, rule, other, ("follows", (first(rule[0]),)))
        else:
            self.assertEqual(paper[0], "follows")
            rows = paper[1]
            # All that can come has to be there.
            self.assertEqual(check_follow(rule, other, ("follows", told)), "follows")
            self.assertLessEqual(set(told), set(rows))
            for _ in range(3):
                at = numbers.below(len(told))
                self.refused(BadPaper, "follows", check_follow, rule, other, ("follows", told[:at] + told[at + 1:]))
                self.refused(BadPaper, "follows", check_follow, rule, other, ("follows", told[:at + 1] + told[at:]))
            if len(told) > 1:
                self.refused(BadPaper, "follows", check_follow, rule, other, ("follows", told[1::-1] + told[2:]))
        for _ in range(4):
            length = 1 + numbers.below(6)
            sounds = tuple(ruling.line_of(numbers, length) for _ in range(rule[0]))
            does_hold = ruling.keeps(other, sounds) and not ruling.keeps(rule, sounds)
            if does_hold:
                self.assertEqual(check_follow(rule, other, ("not", sounds)), "not")
            else:
                self.refused(BadPaper, "not", check_follow, rule, other, ("not", sounds))

    def test_sounds_that_keep(self):
        seen = set()
        for start in range(300):
            numbers = Numbers(start + 900)
            voices = 1 + start % 2
            rule = ruling.rule(numbers, voices, 1 + numbers.below(3), ruling.PLAIN if voices == 2 else ONE, 6)
            length = 1 + numbers.below(12)
            sounds = tuple(ruling.line_of(numbers, length) for _ in range(voices))
            seen.add((voices, ruling.keeps(rule, sounds)))
            self.assertIs(self.same(is_kept_by, rule, sounds), ruling.keeps(rule, sounds), (rule, sounds))
        self.assertEqual(len(seen), 4)

    def test_a_row_more(self):
        """Others may stand in a TABLE from which all is there, too."""
        rule, other = forbids(2, (("apart", 0, 1, 1, 5),)), forbids(2, (("sounds", 0),), (("sounds", 1),))
        told = follow_paper(rule, other)[1]
        self.assertEqual(told, ((0, 0, (False, False, None)),))
        for more in ((0, 0, (False, True, None)), (0, 0, (True, True, -132)), (0, 0, (True, True, 1)), (0, 0, (True, False, None))):
            self.assertEqual(check_follow(rule, other, ("follows", told + (more,))), "follows")
        free = forbids(2, (("apart", 0, 1, 1, 5),))
        full = follow_paper(rule, free)[1]
        for more in ((0, 0, (True, True, 1)), (0, 0, (True, True, 0)), (0, 0, (True, True, 6)), (0, 1, (True, True, -132)), (1, 0, (True, True, -132)),
                     (0, 0, (True, True, None)), (0, 0, (False, True, -132)), (0, 0, (False, False, 1)), (0, 0, (1, 1, -132)), (0, 0, [True, True, -132]),
                     (0, False, (True, True, -132)), (0, 0, (True, True, -132), 0), (0, 0), (0, 0, (True, True)), (0, 0, None), None, 0, (None, 0, (True, True, 1)),
                     (0, 0, (True, True, True))):
            rows = full + (more,) if more not in full else full + (more,) * 2
            if repr(more) == repr((0, 0, (True, True, 1))):
                # It can be told, as nothing there is a fault of the one alone.
                self.assertEqual(check_follow(rule, free, ("follows", tuple(sorted(set(rows))))), "follows")
            else:
                self.refused(BadPaper, "follows", check_follow, rule, free, ("follows", rows))

    def test_situations_of_one_voice(self):
        rule = forbids(1, (("step", 0, 24, 24),))
        full = follow_paper(rule, rule)[1]
        self.assertEqual(len(full), 51)
        self.assertEqual(check_follow(rule, rule, ("follows", full)), "follows")
        for more in ((0, 0, (True, ())), (0, 0, (True, (13,))), (0, 0, (True, (-13,))), (0, 0, (True, (0, 0))), (0, 0, (True, (None,))),
                     (0, 0, (True, (True,))), (0, 0, (True, None)), (0, 0, (True, 0)), (0, 0, (1, (12,))), (0, 0, (True, [12])), (0, 0, (True,))):
            self.refused(BadPaper, "follows", check_follow, rule, rule, ("follows", full + (more,)))
        # Only steps of 24 upwards: from -12 to 12.
        never = forbids(1, (("sounds", 0),))
        self.assertIs(does_follow(forbids(1, (("step", 0, 25, 25),)), forbids(1)), True)
        self.assertIs(does_follow(forbids(1, (("step", 0, 24, 24),)), forbids(1)), False)
        self.assertEqual(follow_paper(rule, never)[1], ((0, 0, (False, ())),))

    def test_two_voices_of_any_pitch(self):
        """Pitches go on, and any difference can come."""
        rule, free = forbids(2, (("apart", 0, 1, 120, 120),)), forbids(2)
        for counter in ((((500, 1),), ((380, 1),)), (((10 ** 900, 1),), ((10 ** 900 - 120, 1),)), (((0, 10 ** 900),), ((None, 10 ** 900 - 1), (-120, 1)))):
            self.assertEqual(check_follow(rule, free, ("not", counter)), "not")
        self.refused(BadPaper, "not", check_follow, rule, free, ("not", (((500, 1),), ((381, 1),))))
        self.refused(BadPaper, "not", check_follow, rule, free, ("not", (((500, 2),), ((380, 1),))))
        # While both go on the difference stays; where one begins any other one can come.
        starts = (2, ((((("apart", 0, 1, 0, 0),), 1, 0), ((), 0, 0)),
                      (((("begins", 0),), 1, 1), ((("begins", 1),), 1, 1), ((), 1, 0))))
        same = (2, ((((("apart", 0, 1, 0, 0),), 1, 0), ((), 0, 0)), (((("apart", 0, 1, 1, 120),), 1, 1), ((), 1, 0))))
        self.assertIs(does_follow(same, starts), True)
        self.assertIs(does_follow(starts, same), False)
        self.assertEqual(check_follow(starts, same, follow_paper(starts, same)), "not")

    def test_long_counters(self):
        """By many STATES in turn, each fault late."""
        turn = tuple((((("begins", 0), ("begins", 1)), (at + 1) % 6, 0), ((), at, 0)) for at in range(6))
        late = (2, turn[:5] + ((((("begins", 0), ("begins", 1)), 0, 1), ((), 5, 0)),))
        slow = (2, tuple((((("begins", 0), ("begins", 1), ("class", 0, 1, (at,))), (at + 1) % 5, 0), ((("begins", 0), ("begins", 1)), at, 1), ((), at, 0))
                         for at in range(5)))
        paper = follow_paper(late, slow)
        self.assertEqual(paper[0], "not")
        self.assertEqual(check_follow(late, slow, paper), "not")
        self.assertIs(ruling.keeps(slow, paper[1]) and not ruling.keeps(late, paper[1]), True)
        # Ticks without number in the same STATES.
        count = (1, ((((("sounds", 0),), 1, 0), ((), 0, 0)), (((("sounds", 0),), 2, 0), ((), 0, 0)), (((("sounds", 0),), 0, 1), ((), 0, 0))))
        free = (1, (FREE,))
        self.assertEqual(check_follow(count, free, ("not", (((0, 10 ** 999),),))), "not")
        self.assertEqual(check_follow(count, free, ("not", (((0, 3),),))), "not")
        self.refused(BadPaper, "not", check_follow, count, free, ("not", (((0, 2), (None, 10 ** 999)),)))
        self.assertEqual(check_follow(count, free, ("not", (tuple((0, 10 ** 998 + at) for at in range(300)),))), "not")

    def not_by(self, rule, other):
        """A PAPER that the RULE does not follow holds, and is told for sounds that keep the other one alone."""
        paper = follow_paper(rule, other)
        self.assertEqual(paper[0], "not")
        self.assertEqual(check_follow(rule, other, paper), "not")
        self.assertIs(ruling.keeps(other, paper[1]) and not ruling.keeps(rule, paper[1]), True, paper)
        return paper[1]

    def test_counters_that_go_on(self):
        """One voice begins while the other one goes on: the differences have to be those that are told."""
        both = ("begins", 0), ("begins", 1)
        for turns in ((0, 1, 0, 1, 0), (1, 1, 0, 0, 1), (0, 0, 0, 1, 1), (1, 0, 1, 0, 0)):
            for rests in ((0, 3, 7, 1, 9), (5, 0, 0, 11, 2)):
                states = []
                for at, (turn, rest) in enumerate(zip(turns, rests)):
                    onward = min(at + 1, 4)
                    states.append(((both, at, 1), ((("begins", 1 - turn),), at, int(at > 0)), ((("begins", turn), ("class", 0, 1, (rest,))), onward, 0),
                                   ((("begins", turn), ("class", 0, 1, tuple(range(12)))), at, 1), ((), at, 0)))
                other = (2, tuple(states))
                last = states[4][:2] + (states[4][2][:2] + (1,),) + states[4][3:]
                sounds = self.not_by((2, tuple(states[:4]) + (last,)), other)
                begins = [[at for at, (_, begin) in enumerate(ruling.ticks_of(line)) if begin] for line in sounds]
                self.assertFalse(set(begins[0]) & set(begins[1]))

    def test_counters_of_one_voice_alone(self):
        for voice in (0, 1):
            # That voice goes on alone, the other one is silent.
            silent = forbids(2, (("sounds", 1 - voice),))
            begun = (2, ((((("begins", voice),), 1, 0), ((), 0, 0)), (((("begins", voice),), 1, 0), ((("sounds", voice),), 1, 1), ((), 0, 0))))
            self.assertEqual(self.not_by(begun, silent)[voice][0][1], 2)
            # While both go on at a difference of 0.
            level = forbids(2, (("apart", 0, 1, -120, -1),), (("apart", 0, 1, 1, 120),), (("class", 0, 1, tuple(range(1, 12))),))
            held = (2, ((((("begins", voice),), 1, 0), ((), 0, 0)), (((("begins", voice),), 1, 0), ((("apart", 0, 1, 0, 0),), 1, 1), ((), 0, 0))))
            self.not_by(held, level)
        # First some ticks of rest.
        late = (1, ((((("silent", 0),), 1, 0), ((), 0, 1)), (((("silent", 0),), 2, 0), ((), 0, 1)), FREE))
        self.assertEqual(self.not_by((1, (((((("sounds", 0),), 0, 1)), ((), 0, 0)),)), late)[0][0], (None, 2))
        two = (2, ((((("silent", 0), ("silent", 1)), 1, 0), ((), 0, 1)), (((("silent", 0), ("silent", 1)), 2, 0), ((), 0, 1)), (((), 2, 0),)))
        self.assertEqual([line[0][0] for line in self.not_by(forbids(2, (("apart", 0, 1, 3, 3),)), two)], [None, None])

    def test_rows_of_other_kinds(self):
        """What is equal to a row of a TABLE, or stands in its place, but is none."""
        one, two = forbids(1, (("step", 0, 24, 24),)), forbids(2, (("apart", 0, 1, 0, 0),))
        for rule in (one, two):
            full = follow_paper(rule, rule)[1]
            for at, (state, own, situation) in enumerate(full):
                told = [(state, own, (int(situation[0]),) + situation[1:]), (state, own, situation[:1] + (int(bool(situation[1])),) + situation[2:]),
                        (bool(state), own, situation), (state, bool(own), situation), (state, own, situation + (0,)), (state, own, list(situation)),
                        (state, own, situation, 0), [state, own, situation], (state, own, (situation[0], situation[1] + (0,)) if rule is one else situation[:2]),
                        (state, own, (not situation[0], ())) if rule is one else (state, own, situation[:2] + (5,))]
                for bad in told:
                    if repr(bad) != repr(full[at]) and repr(bad) not in [repr(row) for row in full]:
                        self.refused(BadPaper, "follows", check_follow, rule, rule, ("follows", full[:at] + (bad,) + full[at + 1:]))
                        self.refused(BadPaper, "follows", check_follow, rule, rule, ("follows", full[:at] + (bad,) + full[at:]))
                        self.refused(BadPaper, "follows", check_follow, rule, rule, ("follows", full[:at + 1] + (bad,) + full[at + 1:]))

    def test_papers_of_many_kinds(self):
        rule, other = forbids(1, (("sounds", 0),)), forbids(1)
        for bad in ODD + ("not", ("not",), ["not", ()], ("not", (), ()), ("follows",), ("follows", (), 0), ("kept", ()), (("not",), ())):
            self.refused(BadPaper, "form", check_follow, rule, other, bad)
        for bad in ODD + (0, (((0, 1),), ((0, 1),)), [((0, 1),)], ([(0, 1)],), ([0, 1],), ((),), (((13, 1),),), (((-13, 1),),), (((0, 0),),),
                          (((0, -1),),), (((0, True),),), (((False, 1),),), (((0, 1, 1),),), (((0,),),), (((0, None),),), ((("0", 1),),),
                          (((None, 1),),), ((None,),), (None,), ((0, 1),)):
            self.refused(BadPaper, "not", check_follow, rule, other, ("not", bad))
        self.assertEqual(check_follow(rule, other, ("not", (((12, 1),),))), "not")
        self.assertEqual(check_follow(rule, other, ("not", (((None, 10 ** 900), (-12, 5)),))), "not")
        for bad in ODD + (0, [(0, 0, (False, ()))]):
            self.refused(BadPaper, "follows", check_follow, other, rule, ("follows", bad))
        two, free = forbids(2, (("sounds", 0),)), forbids(2)
        for bad in ((((0, 1),),), (((0, 1),), ((0, 1), (0, 1))), (((0, 1),),) * 3, (((0, 1),), [(0, 1)]), (((0, 1),), ()), (((0, 1),), ((0, True),)),
                    (((0, 1),), ((True, 1),)), (((None, 1),), ((0, 1),))):
            self.refused(BadPaper, "not", check_follow, two, free, ("not", bad))

    def test_errors(self):
        one, two = (1, (FREE,)), (2, (FREE,))
        four, pitched, three = (1, (FREE,) * 4), forbids(2, (("pitch", 0, 0, 0),)), (3, (FREE,))
        calls = ((does_follow, ()), (follow_paper, ()), (check_follow, (None,)))
        for odd in ODD + tuple(ruling.no_rules()) + (four, pitched, forbids(2, (("step", 0, 0, 0),)), three, (4, (FREE,))):
            for call, rest in calls:
                self.refused(BadRule, odd, call, odd, None, *rest)
                self.refused(BadRule, odd, call, one, odd, *rest)
                self.refused(BadRule, odd, call, two, odd, *rest)
            self.refused(BadRule, odd, is_kept_by, odd, None)
        for call, rest in calls:
            self.refused(BadRule, two, call, one, two, *rest)
            self.refused(BadRule, one, call, two, one, *rest)
        self.assertIs(does_follow((1, (FREE,) * 3), (1, (NEVER,) * 3)), True)
        self.assertIs(does_follow((2, (FREE,) * 6), (2, (NEVER,) * 6)), True)
        many = with_parts(*[("apart", 0, 1, 10 * at, 10 * at) for at in range(7)])
        more = with_parts(*[("apart", 0, 1, 5 + 10 * at, 5 + 10 * at) for at in range(7)])
        for call, rest in calls:
            self.refused(TooMany, 12, call, many, more, *rest)
            self.refused(TooMany, 12, call, with_parts(*[("class", 0, 1, (at,)) for at in range(12)], ("apart", 0, 1, 0, 0)), two, *rest)
            self.refused(BadRule, one, call, with_parts(*[("class", 0, 1, (at,)) for at in range(12)], ("apart", 0, 1, 0, 0)), one, *rest)
        # No faces are asked for of sounds.
        self.assertIs(is_kept_by(with_parts(*[("class", 0, 1, (at,)) for at in range(12)], ("apart", 0, 1, 0, 0)), (((0, 1),), ((0, 1),))), True)

    def test_no_sounds(self):
        one, two = (1, (FREE,)), (2, (FREE,))
        line = ((0, 1),)
        for odd in ODD + (0, line, [line], (list(line),), (line, line), (((13, 1),),), (((-13, 1),),), (((0, 0),),), (((0, 1001),),), (((0, True),),),
                          (((0, 1), None),), (((0, 10 ** 900),),), (((0, 1),) * 2001,), ((),)):
            self.refused(BadSounds, odd, is_kept_by, one, odd)
        for odd in ODD + (0, (line,), (line, line, line), (line, ((0, 2),)), (((1001, 1),), line), (line, ((-1001, 1),)), (line, ((0, 1), (0, 1))),
                          (line * 1001, line * 1001), (line, list(line)), (line, ())):
            self.refused(BadSounds, odd, is_kept_by, two, odd)
        self.assertIs(is_kept_by(one, (((12, 1000), (-12, 1000), (None, 1000)),)), True)
        self.assertIs(is_kept_by(one, (line * 2000,)), True)
        self.assertIs(is_kept_by(two, (((1000, 1),) * 1000, ((-1000, 1),) * 1000)), True)


if __name__ == "__main__":
    unittest.main()

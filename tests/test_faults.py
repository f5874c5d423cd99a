"""Scores looked through by a rule: [401] to [403], and tacthouse.faults."""

import unittest

from tacthouse.errors import BadNumber, BadPaper, BadRule, BadScore, TooMany
from tacthouse.faults import check_kept, fault_at, is_kept, kept_paper, many_faults, state_ahead
from tests import making, plain, ruling
from tests.refusing import NO_INTEGERS, ODD, Refusing
from tests.test_sounds import MANY

A = ("block", (((0, 2), (None, 1)),))
SCORE = (A, ("again", 0, 4))
ALWAYS = (1, ((((), 0, 0),),))
# Of two ticks one behind the other that sound the second one is a fault.
TWICE = (1, ((((("sounds", 0),), 1, 0), ((), 0, 0)), (((("sounds", 0),), 0, 1), ((), 0, 0))))
TOO_MANY = MANY + (("turned", 30), ("then", 30, 31))
VERY = (("block", (((None, 2), (3, 1), (3, 2), (None, 1)), ((4, 6),))), ("again", 0, 10 ** 12), ("again", 1, 10 ** 12),
        ("again", 2, 10 ** 12), ("again", 3, 1666))
MANY_TIMES = 1666 * 10 ** 36


def pairs(score):
    """All pairs of a VARIED SIGN and an ear, going through all of the score."""
    found, voices = set(), plain.voices(score)

    def go(number, up, turned, back, slow, ear):
        found.add(((number, up, turned, back, slow), ear))
        sign = score[number]
        word = sign[0]
        if word == "block":
            behind = []
            for voice, before in enumerate(ear):
                pitches = [p for p, _ in sign[1][voice] if p is not None][::-1 if back else 1]
                behind.append((up - pitches[-1] if turned else up + pitches[-1]) if pitches else before)
            return tuple(behind)
        parts = {"then": lambda: [sign[1], sign[2]], "again": lambda: [sign[1]] * sign[2],
                 "ends": lambda: [part for end in sign[2] for part in (sign[1], end)]}.get(word, lambda: [sign[1]])()
        if word == "up":
            up += -sign[2] if turned else sign[2]
        turned, back, slow = turned ^ (word == "turned"), back ^ (word == "back"), slow * (sign[2] if word == "slow" else 1)
        for part in parts[::-1] if back else parts:
            ear = go(part, up, turned, back, slow, ear)
        return ear

    go(len(score) - 1, 0, False, False, 1, (None,) * voices)
    return found


def many_ears(blocks, rows):
    """A score in which each of some signs comes behind each of some blocks."""
    score = [("block", (((pitch, 1),),)) for pitch in range(blocks)]
    for at in range(rows):
        score.append(("ends", at, tuple(range(4))))
    return tuple(score)


class Faults(Refusing, unittest.TestCase):
    def test_arguments(self):
        self.assertEqual(state_ahead(score=SCORE, rule=TWICE, tick=1), 1)
        self.assertEqual(many_faults(score=SCORE, rule=TWICE), 4)
        self.assertIs(is_kept(score=SCORE, rule=TWICE), False)
        self.assertEqual(fault_at(score=SCORE, rule=TWICE, number=2), 7)
        self.assertEqual(kept_paper(score=SCORE, rule=TWICE)[0], "fault")
        self.assertEqual(check_kept(score=SCORE, rule=TWICE, paper=("fault", 1)), "fault")

    def test_against_a_plain_look(self):
        kept, words = 0, set()
        for start in range(240):
            numbers = making.Numbers(start + 4000)
            voices = 1 + numbers.below(4)
            score = making.score(numbers, voices, 2 + numbers.below(11), 90)
            made = ruling.rule(numbers, voices, 1 + numbers.below(6), often=3 + 9 * numbers.below(3), triples=1 + numbers.below(5), parts=3)
            words |= {part[0] for state in made[1] for test, _, _ in state for part in test}
            rows, behind = ruling.look_at(made, score)
            faults = [tick for tick, (_, fault) in enumerate(rows) if fault]
            self.assertEqual(self.same(many_faults, score, made), len(faults), (score, made))
            self.assertIs(self.same(is_kept, score, made), not faults)
            self.assertEqual([state_ahead(score, made, tick) for tick in range(len(rows) + 1)], [state for state, _ in rows] + [behind])
            self.assertEqual([fault_at(score, made, number) for number in range(len(faults))], faults)
            for odd in (-1, len(faults), None, False):
                self.refused(BadNumber, odd, fault_at, score, made, odd)
            kept += not faults
            self.papers(score, made, faults, len(rows))
        self.assertGreater(kept, 30)
        self.assertEqual(words, set(ruling.WORDS[2]))

    def papers(self, score, made, faults, length):
        paper = self.same(kept_paper, score, made)
        self.assertEqual(self.same(check_kept, score, made, paper), paper[0])
        for tick in range(-1, length + 1):
            if tick in faults:
                self.assertEqual(check_kept(score, made, ("fault", tick)), "fault")
            else:
                self.refused(BadPaper, "fault", check_kept, score, made, ("fault", tick))
        if faults:
            self.assertEqual(paper[0], "fault")
            return
        rows = paper[1]
        self.assertEqual({row[:2] for row in rows}, pairs(score))
        self.assertEqual(check_kept(score, made, ("kept", rows[::-1])), "kept")
        for at in range(len(rows)):
            # Each of these rows is asked.
            self.refused(BadPaper, "kept", check_kept, score, made, ("kept", rows[:at] + rows[at + 1:]))
            self.refused(BadPaper, "kept", check_kept, score, made, ("kept", rows + rows[at:at + 1]))
            varied, ear, ways = rows[at]
            other = tuple((ahead, (behind + 1) % len(made[1])) for ahead, behind in ways)
            if other != ways:
                self.refused(BadPaper, "kept", check_kept, score, made, ("kept", rows[:at] + ((varied, ear, other),) + rows[at + 1:]))
            self.refused(BadPaper, "kept", check_kept, score, made, ("kept", rows[:at] + ((varied, ear, ways[1:]),) + rows[at + 1:]))

    def test_rows_that_are_not_asked(self):
        """Others may stand there that hold likewise, by any ear."""
        score = (A, ("up", 0, 2), ("then", 0, 1))
        made = (1, ((((("step", 0, 5, 9),), 0, 1), ((), 1, 0)), (((("step", 0, 5, 9),), 1, 1), ((), 1, 0)), (((), 0, 0),)))
        rows = kept_paper(score, made)[1]
        block, first = (0, 0, False, False, 1), (0, 2, False, False, 1)
        for ear in (None, 0, 5, -4, 60, -60):
            if (block, (ear,)) in [row[:2] for row in rows]:
                continue
            holds = not (ear is not None and 5 <= 0 - ear <= 9)
            for ways in ((), ((0, 1),), ((0, 1), (1, 1)), ((2, 1),)):
                paper = ("kept", rows + ((block, (ear,), ways),))
                if holds and ways != ((2, 1),) or ways == ():
                    self.assertEqual(check_kept(score, made, paper), "kept")
                elif ways != ((2, 1),):
                    self.refused(BadPaper, "kept", check_kept, score, made, paper)
        # A STATE that never comes may be told, if it is as it is: from 2 the first tick goes to 0, the others to 1.
        at = [row[:2] for row in rows].index((first, (0,)))
        for ways, does_hold in ((rows[at][2] + ((2, 1),), True), (rows[at][2] + ((2, 0),), False), (rows[at][2] + ((2, 2),), False)):
            paper = ("kept", rows[:at] + ((first, (0,), ways),) + rows[at + 1:])
            if does_hold:
                self.assertEqual(check_kept(score, made, paper), "kept")
            else:
                self.refused(BadPaper, "kept", check_kept, score, made, paper)
        # What is told of a sign is asked of its parts.
        whole = (2, 0, False, False, 1)
        self.refused(BadPaper, "kept", check_kept, score, made, ("kept", rows + ((whole, (7,), ((0, 1),)),)))
        up = (1, 0, False, False, 1)
        self.refused(BadPaper, "kept", check_kept, score, made, ("kept", rows + ((up, (7,), ((0, 1),)),)))
        self.assertEqual(check_kept(score, made, ("kept", rows + ((up, (7,), ((0, 1),)), (first, (7,), ((0, 1),))))), "kept")

    def test_ways_of_again(self):
        """The first time by the ear there, all further ones by one and the same, as often as there are."""
        # Three STATES in turn, one round further each time.
        turn = (1, tuple((((("begins", 0),), (state + 1) % 3, 0), ((), state, 0)) for state in range(3)))
        block, again = (0, 0, False, False, 1), (1, 0, False, False, 1)
        for many, ways in ((1, ()), (2, ((1, 2),)), (3, ((1, 2), (2, 0))), (4, ((0, 1), (1, 2), (2, 0))), (10 ** 12, ((0, 1), (1, 2), (2, 0)))):
            score = (A, ("again", 0, many))
            rows = ((block, (None,), ((0, 1),)), (again, (None,), ((0, many % 3),))) + (((block, (0,), ways),) if ways else ())
            self.assertEqual(sorted(kept_paper(score, turn)[1], key=repr), sorted(rows, key=repr))
            self.assertEqual(check_kept(score, turn, ("kept", rows)), "kept")
            for behind in {0, 1, 2} - {many % 3}:
                bad = (rows[0], (again, (None,), ((0, behind),))) + rows[2:]
                self.refused(BadPaper, "kept", check_kept, score, turn, ("kept", bad))
            for at in range(len(ways)):
                bad = rows[:2] + ((block, (0,), ways[:at] + ways[at + 1:]),)
                self.refused(BadPaper, "kept", check_kept, score, turn, ("kept", bad))
        # Into the turn from without: from 0 to 1, then 2 and 3 and 4 in turn.
        into = (1, tuple((((("begins", 0),), state + 1 if state < 4 else 2, 0), ((), state, 0)) for state in range(5)))
        for many in (2, 3, 6, 7, 8, 10 ** 12 - 1, 10 ** 12):
            score = (A, ("again", 0, many))
            behind = many if many < 5 else 2 + (many - 2) % 3
            ways = tuple((state, state + 1 if state < 4 else 2) for state in range(1, min(many, 5)))
            rows = ((block, (None,), ((0, 1),)), (again, (None,), ((0, behind),)), (block, (0,), ways))
            self.assertEqual(sorted(kept_paper(score, into)[1], key=repr), sorted(rows, key=repr))
            self.assertEqual(check_kept(score, into, ("kept", rows)), "kept")
            self.assertEqual(state_ahead(score, into, 3 * many), behind)
            for other in {1, 2, 3, 4} - {behind}:
                self.refused(BadPaper, "kept", check_kept, score, into, ("kept", (rows[0], (again, (None,), ((0, other),)), rows[2])))
            for at in range(len(ways)):
                bad = rows[:2] + ((block, (0,), ways[:at] + ways[at + 1:]),)
                self.refused(BadPaper, "kept", check_kept, score, into, ("kept", bad))

    def test_papers_of_many_kinds(self):
        score, made = SCORE, ALWAYS
        block, again = (0, 0, False, False, 1), (1, 0, False, False, 1)
        rows = ((block, (None,), ((0, 0),)), (block, (0,), ((0, 0),)), (again, (None,), ((0, 0),)))
        self.assertEqual(check_kept(score, made, ("kept", rows)), "kept")
        for bad in ODD + ("kept", ("kept",), ["kept", rows], ("kept", rows, 0), ("faults", 0), ("fault",), ("fault", 0, 0), (("kept",), rows)):
            self.refused(BadPaper, "form", check_kept, score, made, bad)
        for bad in ODD + (0, list(rows), rows[:2], rows[1:], rows[:1] + rows[2:]):
            self.refused(BadPaper, "kept", check_kept, score, made, ("kept", bad))
        for bad in ODD + (0, list(rows[0]), rows[0][:2], rows[0] + (0,), (block, (None,), [(0, 0)]), (block, [None], ((0, 0),)),
                          (list(block), (None,), ((0, 0),)), ((0, 0, False, False), (None,), ((0, 0),)), ((0, 0, False, False, 2), (None,), ((0, 0),)),
                          ((0, 0, 0, 0, 1), (None,), ((0, 0),)), ((False, 0, False, False, 1), (None,), ((0, 0),)),
                          ((0, 0, False, False, True), (None,), ((0, 0),)), ((0, False, False, False, 1), (None,), ((0, 0),)),
                          ((0, 0, True, False, 1), (None,), ((0, 0),)), ((0, None, False, False, 1), (None,), ((0, 0),)), (block, (), ((0, 0),)),
                          (block, (None, None), ((0, 0),)), (block, (61,), ((0, 0),)), (block, (-61,), ((0, 0),)), (block, (False,), ((0, 0),)),
                          (block, ("0",), ((0, 0),)), (block, (None,), ((0, 1),)), (block, (None,), ((1, 0),)), (block, (None,), ((0, 0), (0, 0))),
                          (block, (None,), ((False, 0),)), (block, (None,), ((0, False),)), (block, (None,), ([0, 0],)), (block, (None,), ((0, 0, 0),)),
                          (block, (None,), (None,)), (block, (None,), None), (block, (None,), 0), (block, None, ((0, 0),)), (None, (None,), ((0, 0),)),
                          (block, (None,), ((-1, 0),)), (block, (None,), ((0, -1),))):
            self.refused(BadPaper, "kept", check_kept, score, made, ("kept", (bad,) + rows[1:]))
        for more in ((block, (3,), ((0, 1),)), (block, (3,), ((1, 0),)), (block, (3,), ((-1, 0),)), ((0, 0, True, False, 1), (3,), ((0, 0),)),
                     ((0, 0, False, True, 1), (3,), ((0, 0),)), ((0, 1, False, False, 1), (3,), ((0, 0),)), ((2, 0, False, False, 1), (3,), ((0, 0),)),
                     ((0, 0, 0, False, 1), (3,), ((0, 0),)), ((0, 0, False, 0, 1), (3,), ((0, 0),)), ((0, 0, False, False, 1, 1), (3,), ((0, 0),)),
                     ((0, 0, False, False, 2), (3,), ((0, 0),)), ((-1, 0, False, False, 1), (3,), ((0, 0),))):
            self.refused(BadPaper, "kept", check_kept, score, made, ("kept", rows + (more,)))
        self.assertEqual(check_kept(score, made, ("kept", rows + ((block, (60,), ((0, 0),)), (block, (-60,), ())))), "kept")
        for odd in NO_INTEGERS + (-1, 12, 10 ** 900):
            self.refused(BadPaper, "fault", check_kept, score, TWICE, ("fault", odd))
        descending = (1, ((((), 0, 0),), (((), 1, 0),)))
        both = (rows[0][:2] + (((0, 0), (1, 1)),),) + rows[1:]
        self.assertEqual(check_kept(score, descending, ("kept", both)), "kept")
        self.refused(BadPaper, "kept", check_kept, score, descending, ("kept", (rows[0][:2] + (((1, 1), (0, 0)),),) + rows[1:]))

    def test_very_long(self):
        # Each second begin that is a step of 0 is a fault.
        steps = (2, ((((("step", 0, 0, 0),), 1, 0), ((), 0, 0)), (((("step", 0, 0, 0),), 0, 1), ((), 1, 0))))
        begins = 2 * MANY_TIMES
        self.assertEqual(many_faults(VERY, steps), (begins - 1) // 2)
        # The begins are at 2 and 3 of each six; the first is no step, the third one is the first fault.
        for number in (0, 1, 10 ** 20, (begins - 1) // 2 - 1):
            self.assertEqual(fault_at(VERY, steps, number), 6 * (number + 1) + 2)
            self.assertEqual(check_kept(VERY, steps, ("fault", 6 * (number + 1) + 2)), "fault")
            self.refused(BadPaper, "fault", check_kept, VERY, steps, ("fault", 6 * (number + 1) + 3))
        self.refused(BadNumber, (begins - 1) // 2, fault_at, VERY, steps, (begins - 1) // 2)
        self.assertEqual([state_ahead(VERY, steps, 6 * 10 ** 30 + at) for at in range(6)], [1, 1, 1, 0, 1, 1])
        self.assertEqual(state_ahead(VERY, steps, 6 * MANY_TIMES), 1)
        silent = (2, ((((("silent", 0),), 0, 1), ((), 0, 0)),))
        self.assertEqual(many_faults(VERY, silent), 3 * MANY_TIMES)
        self.assertEqual([fault_at(VERY, silent, 3 * 10 ** 36 + at) for at in range(4)], [6 * 10 ** 36 + at for at in (0, 1, 5, 6)])
        apart = (2, ((((("apart", 1, 0, 2, 9),), 0, 1), ((), 0, 0)),))
        paper = kept_paper(VERY, apart)
        self.assertEqual(check_kept(VERY, apart, paper), "kept")
        self.assertIs(is_kept(VERY, apart), True)
        count = (1, tuple(((((), (state + 1) % 5, int(state == 3))),) for state in range(5)))
        tower = (("block", (((None, 1),),)),) + tuple(("again", at, 10 ** 12 - 7) for at in range(3)) + (("again", 3, 9999),)
        length = 9999 * (10 ** 12 - 7) ** 3
        self.assertEqual((many_faults(tower, count), state_ahead(tower, count, length)), (length // 5, length % 5))
        self.assertEqual(fault_at(tower, count, 10 ** 38), 5 * 10 ** 38 + 3)

    def test_many_pairs(self):
        """Up to 2,000 unlike pairs of a VARIED SIGN and an ear."""
        three, counts = (3, ALWAYS[1]), []
        for rows in (3, 8):
            score = many_ears(4, rows)
            self.assertEqual({row[:2] for row in kept_paper(score, ALWAYS)[1]}, pairs(score))
        full = self.tall(12, (4, 8, 4))
        for tall in (self.tall(5), self.tall(6), full, full + (("turned", 33),)):
            count = len(pairs(tall))
            if count > 2000:
                for call, rest in ((state_ahead, (0,)), (many_faults, ()), (is_kept, ()), (fault_at, (None,)), (kept_paper, ()), (check_kept, (None,))):
                    self.refused(TooMany, 2000, call, tall, three, *rest)
            else:
                self.assertEqual(len(kept_paper(tall, three)[1]), count)
                self.refused(BadNumber, None, fault_at, tall, three, None)
            counts.append(count)
        self.assertEqual(counts, [1920, 2144, 2000, 2001])

    def tall(self, many, counts=(8, 7, 4)):
        """A score in which rests, so many signs and one more, come by all last PITCHES of three voices together."""
        score = [("block", tuple(((0 if voice == at else None, 1),) for voice in range(3))) for at in range(3)]
        score.append(("block", (((None, 1),),) * 3))
        whole = 3
        for _ in range(many):
            score.append(("then", whole, whole))
            whole = len(score) - 1
        for voice, pitches in enumerate(counts):
            notes = [voice]
            for up in range(1, pitches):
                score.append(("up", voice, up))
                notes.append(len(score) - 1)
            score.extend(("ends", whole, tuple(notes[at:at + 4])) for at in range(0, pitches, 4))
            if pitches > 4:
                score.append(("then", len(score) - 2, len(score) - 1))
            whole = len(score) - 1
        return tuple(score)

    def test_errors(self):
        calls = ((state_ahead, (None,)), (many_faults, ()), (is_kept, ()), (fault_at, (None,)), (kept_paper, ()), (check_kept, (None,)))
        two = (2, ALWAYS[1])
        for call, rest in calls:
            self.refused(BadScore, None, call, None, None, *rest)
            self.refused(BadScore, 1, call, (A, None), ALWAYS, *rest)
            self.refused(TooMany, 200, call, TOO_MANY, None, *rest)
            for odd in ODD + tuple(ruling.no_rules()) + (two, (3, ALWAYS[1]), (4, ALWAYS[1])):
                self.refused(BadRule, odd, call, SCORE, odd, *rest)
        self.refused(BadRule, ALWAYS, many_faults, (("block", (((0, 1),), ((0, 1),))),), ALWAYS)
        for odd in NO_INTEGERS + (-1, 13, 10 ** 900):
            self.refused(BadNumber, odd, state_ahead, SCORE, TWICE, odd)
        for odd in NO_INTEGERS + (-1, 4, 10 ** 900):
            self.refused(BadNumber, odd, fault_at, SCORE, TWICE, odd)
        self.refused(BadNumber, 0, fault_at, SCORE, ALWAYS, 0)
        self.assertEqual(state_ahead(SCORE, TWICE, 12), 0)
        tall, three = self.tall(6), (3, ALWAYS[1])
        # Too many pairs: behind the errors of all arguments, but ahead of the number of a fault, and of a paper.
        self.refused(BadRule, two, many_faults, tall, two)
        self.refused(BadNumber, -1, state_ahead, tall, three, -1)
        self.refused(TooMany, 2000, fault_at, tall, three, -1)
        self.refused(TooMany, 2000, check_kept, tall, three, None)


if __name__ == "__main__":
    unittest.main()

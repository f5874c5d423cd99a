"""One voice answers another one: [430] to [432], and tacthouse.games."""

import unittest

from tacthouse.errors import BadPaper, BadRule, BadSounds, TooMany
from tacthouse.games import answer_to, check_game, does_hold, game_paper, least_ticks
from tests import ruling
from tests.making import Numbers
from tests.refusing import ODD, Refusing
from tests.test_rulings import faces, with_parts

FIRST = (0, (False, False, None))
# The voice 1 has to sound in thirds and fifths below the voice 0, and may begin again only with it.
THIRDS = (2, ((((("class", 0, 1, (3, 4, 7)),), 0, 0), ((("sounds", 0),), 0, 1), ((), 0, 0)),))
# To sound while the voice 0 begins is a fault, and so is silence behind it.
HARD = (2, ((((("begins", 0), ("silent", 1)), 1, 0), ((("sounds", 0), ("sounds", 1)), 0, 1), ((), 0, 0)),
            (((("sounds", 0), ("silent", 1)), 0, 1), ((("begins", 0),), 1, 1), ((), 1, 0))))


def moves(situation, lot):
    """All MOVES of the voice 0, by the words of [430]."""
    sounds, other, _ = situation
    begins = [("begin", face) for face in lot] if other else [("begin", None)]
    return [("on",)] * sounds + [("rest",)] + begins


def answers(situation, move, lot):
    begins = [("begin", face) for face in lot] if move[0] != "rest" else [("begin", None)]
    return [("on",)] * situation[1] + [("rest",)] + begins


def behind(game, place, move, answer):
    """(FAULT, STATE, SITUATION) by a MOVE and an ANSWER."""
    state, (_, _, face) = place
    both = move[0] != "rest" and answer[0] != "rest"
    if answer[0] == "begin":
        face = answer[1]
    elif move[0] == "begin":
        face = move[1]
    now = ((None if move[0] == "rest" else face if both else 0, move[0] == "begin"),
           (None if answer[0] == "rest" else 0, answer[0] == "begin"))
    following, fault = ruling.tick(game, state, now, (None, None))
    return fault, following, (move[0] != "rest", answer[0] != "rest", face if both else None)


def places(game, lot):
    situations = [(False, False, None), (False, True, None), (True, False, None)] + [(True, True, face) for face in lot]
    return [(state, situation) for state in range(len(game[1])) for situation in situations]


def ticks_to_fault(game):
    """For each place that the voice 0 can force a fault from, within how many ticks: going back from faults."""
    lot = faces(game)
    least, ticks = {}, 0
    while True:
        ticks += 1
        more = {}
        for place in places(game, lot):
            if place in least:
                continue
            for move in moves(place[1], lot):
                told = [behind(game, place, move, answer) for answer in answers(place[1], move, lot)]
                if all(fault or (state, situation) in least for fault, state, situation in told):
                    more[place] = ticks
        if not more:
            return least
        least.update(more)


def late(game):
    """The same with faults in the last STATE alone."""
    states = game[1]
    return (2, tuple(tuple((test, behind, 0) for test, behind, _ in state) for state in states[:-1]) + states[-1:])


def plan_rows(game, paper):
    return {row[:3]: row[3] for row in paper[1]}


class Games(Refusing, unittest.TestCase):
    def test_arguments(self):
        self.assertIs(does_hold(game=THIRDS), True)
        self.assertIsNone(least_ticks(game=THIRDS))
        self.assertEqual(check_game(game=THIRDS, paper=game_paper(game=THIRDS)), "plan")
        self.assertIs(ruling.keeps(THIRDS, (((5, 2),), answer_to(game=THIRDS, line=((5, 2),)))), True)

    def test_against_going_back_from_faults(self):
        counts = {}
        for start in range(150):
            numbers = Numbers(start + 33)
            game = ruling.rule(numbers, 2, 1 + numbers.below(3), ruling.PLAIN, 2 + numbers.below(3), 1 + numbers.below(4), 3) if start % 2 == 0 else ruling.rule(
                numbers, 2, 3, ruling.PLAIN, 1 + numbers.below(2), 2 + numbers.below(3))
            if start % 2:
                game = late(game)
            if len(faces(game)) > 12:
                continue
            least = ticks_to_fault(game)
            told = least.get(FIRST)
            counts[min(told or 0, 3)] = counts.get(min(told or 0, 3), 0) + 1
            self.assertIs(self.same(does_hold, game), told is None, game)
            self.assertEqual(self.same(least_ticks, game), told)
            paper = self.same(game_paper, game)
            self.assertEqual(self.same(check_game, game, paper), paper[0])
            if told is None:
                self.plan(game, paper, numbers)
                self.lines(game, numbers)
            else:
                self.ends(game, paper, least, numbers)
                self.assertIsNone(answer_to(game, ((None, 3), (5, 2))))
                self.assertIsNone(answer_to(game, ruling.line_of(numbers, 9)))
        self.assertTrue(all(counts.get(ticks, 0) > 1 for ticks in (0, 1, 2, 3)), counts)

    def plan(self, game, paper, numbers):
        self.assertEqual(paper[0], "plan")
        rows, lot = plan_rows(game, paper), faces(game)
        self.assertEqual(len(rows), len(paper[1]))
        seen, waiting = {FIRST}, [FIRST]
        while waiting:
            place = waiting.pop()
            for move in moves(place[1], lot):
                fault, state, situation = behind(game, place, move, rows.pop(place + (move,)))
                self.assertEqual(fault, 0)
                if (state, situation) not in seen:
                    seen.add((state, situation))
                    waiting.append((state, situation))
        self.assertEqual(rows, {})
        told = paper[1]
        for _ in range(4):
            at = numbers.below(len(told))
            self.refused(BadPaper, "plan", check_game, game, ("plan", told[:at] + told[at + 1:]))
            self.refused(BadPaper, "plan", check_game, game, ("plan", told[:at + 1] + told[at:]))
            if at:
                self.refused(BadPaper, "plan", check_game, game, ("plan", told[:at - 1] + (told[at], told[at - 1]) + told[at + 1:]))
            state, situation, move, _ = told[at]
            for answer in answers(situation, move, lot):
                if behind(game, (state, situation), move, answer)[0]:
                    bad = told[:at] + ((state, situation, move, answer),) + told[at + 1:]
                    self.refused(BadPaper, "plan", check_game, game, ("plan", bad))
        for place in places(game, lot):
            if place not in seen:
                # There are no others.
                more = [place + (move, ("rest",)) for move in moves(place[1], lot)]
                self.refused(BadPaper, "plan", check_game, game, ("plan", tuple(sorted(told + tuple(more)))))
        self.refused(BadPaper, "ends", check_game, game, ("ends", (FIRST + (1,),)))

    def ends(self, game, paper, least, numbers):
        self.assertEqual(paper[0], "ends")
        told = tuple(sorted(place + (ticks,) for place, ticks in least.items()))
        self.assertEqual(check_game(game, ("ends", told)), "ends")
        ranks = {row[:2]: row[2] for row in paper[1]}
        self.assertGreaterEqual(ranks[FIRST], least[FIRST])
        self.assertEqual(check_game(game, ("ends", tuple(place + (10 ** 900 * rank,) for place, rank in told_pairs(told)))), "ends")
        at = [row[:2] for row in told].index(FIRST)
        self.refused(BadPaper, "ends", check_game, game, ("ends", told[:at] + told[at + 1:]))
        if least[FIRST] > 1:
            self.refused(BadPaper, "ends", check_game, game, ("ends", told[:at] + (FIRST + (least[FIRST] - 1,),) + told[at + 1:]))
            self.refused(BadPaper, "ends", check_game, game, ("ends", told[at:at + 1]))
        self.refused(BadPaper, "ends", check_game, game, ("ends", told + told[-1:]))
        for number, row in enumerate(told):
            if row[2] == 1:
                for rank in (0, -1, True, None):
                    self.refused(BadPaper, "ends", check_game, game, ("ends", told[:number] + (row[:2] + (rank,),) + told[number + 1:]))
        for more in ((len(game[1]), FIRST[1], 1), (len(game[1]) + 1, (True, False, None), 10 ** 6)):
            self.refused(BadPaper, "ends", check_game, game, ("ends", told + (more,)))
        if len(told) > 1:
            self.refused(BadPaper, "ends", check_game, game, ("ends", told[1::-1] + told[2:]))
        for place in places(game, faces(game)):
            if place not in least:
                bad = tuple(sorted(told + (place + (1 + numbers.below(50),),)))
                self.refused(BadPaper, "ends", check_game, game, ("ends", bad))
        self.refused(BadPaper, "plan", check_game, game, ("plan", ()))

    def lines(self, game, numbers):
        for _ in range(6):
            line = ruling.line_of(numbers, 1 + numbers.below(20), 30)
            answer = self.same(answer_to, game, line)
            self.assertEqual(sum(long for _, long in answer), sum(long for _, long in line))
            self.assertIs(ruling.keeps(game, (line, answer)), True, (game, line, answer))
            self.assertTrue(all(isinstance(pitch, (int, type(None))) and long > 0 for pitch, long in answer))

    def test_games_told_by_hand(self):
        self.assertEqual((does_hold(HARD), least_ticks(HARD)), (False, 2))
        self.assertEqual(least_ticks((2, ((((), 0, 1),),))), 1)
        self.assertIs(does_hold((2, ((((), 0, 0),),))), True)
        # The voice 0 may go on or begin: it cannot be told ahead, but it is answered at the tick.
        with_it = (2, ((((("begins", 0), ("begins", 1)), 0, 0), ((("begins", 0),), 0, 1), ((("begins", 1),), 0, 1), ((), 0, 0)),))
        self.assertIs(does_hold(with_it), True)
        # What goes on below a new beginning has the FACE that the voice 0 chose.
        stays = (2, ((((("apart", 0, 1, 3, 4), ("begins", 1)), 1, 0), ((("sounds", 0),), 0, 1), ((), 0, 0)),
                     (((("begins", 1),), 1, 1), ((("apart", 0, 1, 3, 4),), 1, 0), ((("silent", 0), ("sounds", 1)), 1, 0), ((), 0, 1))))
        self.assertEqual(least_ticks(stays), 2)
        count = (2, tuple(((((("begins", 0),), at + 1, 0), ((), at, 0))) for at in range(5)) + ((((("begins", 0),), 5, 1), ((), 5, 0)),))
        self.assertEqual(least_ticks(count), 6)
        self.assertEqual(check_game(count, game_paper(count)), "ends")

    def test_going_on(self):
        """What sounded alone can go on, of either voice; also at a difference of 0."""
        for voice in (0, 1):
            held = (2, ((((("begins", voice),), 1, 0), ((), 0, voice)), (((("begins", voice),), 1, 1), ((("sounds", voice),), 1, 0), ((), 1, 1))))
            # The voice 1 can do so for ever; the voice 0 need not.
            self.assertEqual(least_ticks(held), 2 if voice == 0 else None)
            self.assertEqual(check_game(held, game_paper(held)), "ends" if voice == 0 else "plan")
        level = (2, ((((("class", 0, 1, (0,)), ("begins", 1)), 0, 0), ((("begins", 1),), 0, 1), ((("apart", 0, 1, 0, 0),), 0, 0), ((("sounds", 0),), 0, 1), ((), 0, 0)),))
        self.assertIs(does_hold(level), True)
        # It cannot but go on, where it may neither begin nor rest, and so has to have begun there.
        kept = (2, ((((("sounds", 0), ("begins", 1)), 1, 0), ((("sounds", 0),), 0, 1), ((), 0, 0)),
                    (((("begins", 1),), 1, 1), ((("silent", 1),), 1, 1), ((), 1, 0))))
        self.assertIs(does_hold(kept), True)
        self.assertEqual(answer_to(kept, ((None, 1), (3, 2), (None, 4), (5, 1)))[-1][1], 7)

    def test_moves_of_other_kinds(self):
        """What is equal to a MOVE or an ANSWER, or a part of one, but is none."""
        game = (2, ((((("apart", 0, 1, 0, 0),), 0, 0), ((("apart", 0, 1, 1, 1),), 0, 0), ((), 0, 0)),))
        self.assertEqual(faces(game), (-132, 0, 1))
        plan = game_paper(game)[1]
        for at, row in enumerate(plan):
            for part in (2, 3):
                face = row[part][-1]
                others = [("begin", bool(face))] if face in (0, 1) else []
                for bad in others + [list(row[part]), row[part] + (None,), row[part][:1] * 2, ("begin", 7), ("begin", -1), ("on", None), ("begin",), "rest", None]:
                    told = row[:part] + (bad,) + row[part + 1:]
                    self.refused(BadPaper, "plan", check_game, game, ("plan", plan[:at] + (told,) + plan[at + 1:]))

    def test_twelve_faces(self):
        rests = [("class", 0, 1, (rest,)) for rest in range(11)]
        full = with_parts(*rests)
        self.assertEqual(len(faces(full)), 12)
        self.assertIs(does_hold(full), True)
        self.assertEqual(check_game(full, game_paper(full)), "plan")
        more = with_parts(*rests, ("apart", 0, 1, -3, 40))
        for call, rest in ((does_hold, ()), (game_paper, ()), (check_game, (None,)), (least_ticks, ()), (answer_to, (None,))):
            self.refused(TooMany, 12, call, more, *rest)

    def test_long_lines(self):
        line = tuple((at % 7 * 100 - 300 if at % 5 else None, 96 - at % 3) for at in range(200))
        answer = answer_to(THIRDS, line)
        self.assertIs(ruling.keeps(THIRDS, (line, answer)), True)
        self.assertEqual(answer_to((2, ((((), 0, 0),),)), ((None, 1),))[0][1], 1)
        for pitch in (-1000, 1000):
            self.assertIs(ruling.keeps(THIRDS, (((pitch, 96),), answer_to(THIRDS, ((pitch, 96),)))), True)

    def test_papers_of_many_kinds(self):
        plan = game_paper(THIRDS)[1]
        for bad in ODD + ("plan", ("plan",), ["plan", plan], ("plan", plan, 0), ("ends",), ("ends", (), ()), ("end", ()), (("plan",), plan)):
            self.refused(BadPaper, "form", check_game, THIRDS, bad)
        for bad in ODD + (0, list(plan)):
            self.refused(BadPaper, "plan", check_game, THIRDS, ("plan", bad))
            self.refused(BadPaper, "ends", check_game, HARD, ("ends", bad))
        state, situation, move, answer = plan[0]
        self.assertEqual((state, situation), FIRST)
        for bad in ODD + (0, list(plan[0]), plan[0][:3], plan[0] + (0,), (False, situation, move, answer), (1, situation, move, answer),
                          (-1, situation, move, answer), (0, list(situation), move, answer), (0, (0, 0, None), move, answer),
                          (0, (False, False, 0), move, answer), (0, (False, False), move, answer), (0, None, move, answer),
                          (0, situation, ("on",), answer), (0, situation, list(move), answer), (0, situation, "begin", answer),
                          (0, situation, ("begin",), answer), (0, situation, ("begin", 0), answer), (0, situation, ("rest", None), answer),
                          (0, situation, None, answer), (0, situation, ("begin", None, None), answer), (0, situation, ("begin", False), answer),
                          (0, situation, move, ("on",)), (0, situation, move, list(answer)), (0, situation, move, "rest"), (0, situation, move, None),
                          (0, situation, move, ("begin", None)), (0, situation, move, ("begin", 132)), (0, situation, move, ())):
            self.refused(BadPaper, "plan", check_game, THIRDS, ("plan", (bad,) + plan[1:]))
        told = game_paper(HARD)[1]
        at = [row[:2] for row in told].index(FIRST)
        for bad in ODD + (0, list(told[at]), told[at][:2], told[at] + (0,), FIRST + (0,), FIRST + (-1,), FIRST + (True,), FIRST + (None,), FIRST + ("2",),
                          (False, FIRST[1], 2), (2, FIRST[1], 2), (0, (False, False, 0), 2), (0, (0, 0, None), 2), (0, [False, False, None], 2)):
            self.refused(BadPaper, "ends", check_game, HARD, ("ends", told[:at] + (bad,) + told[at + 1:]))

    def test_errors(self):
        calls = ((does_hold, ()), (game_paper, ()), (check_game, (None,)), (least_ticks, ()), (answer_to, (None,)))
        state = ((((), 0, 0),),)
        for call, rest in calls:
            for odd in ODD + tuple(ruling.no_rules()) + ((1, state), (3, state), (4, state), with_parts(("pitch", 0, 0, 0)), with_parts(("step", 1, 0, 0))):
                self.refused(BadRule, odd, call, odd, *rest)
        fine = (0, 1)
        for game in (THIRDS, HARD):
            for odd in ODD + (0, [fine], fine, (list(fine),), ((0, 0),), ((0, 97),), ((0, True),), ((1001, 1),), ((-1001, 1),), ((True, 1),), ((0, 1, 1),),
                              (fine,) * 201, ((0, 10 ** 900),), ((10 ** 900, 1),), ((0, -1),), ((0, None),), (fine, None), ((fine,),)):
                self.refused(BadSounds, odd, answer_to, game, odd)
        self.assertEqual(sum(long for _, long in answer_to(THIRDS, (fine,) * 200)), 200)


def told_pairs(rows):
    return [(row[:2], row[2]) for row in rows]


if __name__ == "__main__":
    unittest.main()

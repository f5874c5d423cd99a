"""Open games and their calls: [433], and tacthouse.calls."""

import unittest
from itertools import combinations, product
from unittest.mock import patch

from tacthouse.calls import are_all_answered, call_paper, check_call, is_answered
from tacthouse.errors import BadCall, BadPaper, BadRule, TooMany
from tacthouse.games import does_hold
from tests import ruling
from tests.making import Numbers
from tests.refusing import ODD, Refusing
from tests.test_rulings import with_parts

FREE = (2, ((((), 0, 0),),))
FIRST = (False, ((0, False),))
# The voice 1 has to tell at each tick what the voice 0 does next: to sound if and only if it will.
AHEAD = (2, ((((("sounds", 1),), 1, 0), ((), 2, 0)),
             (((("silent", 0),), 2, 1), ((("sounds", 1),), 1, 0), ((), 2, 0)),
             (((("sounds", 0),), 1, 1), ((("sounds", 1),), 1, 0), ((), 2, 0))))


def words(one):
    return ("on", "rest", "begin") if one else ("rest", "begin")


def calls(length):
    """All CALLS of this LENGTH."""
    found = []
    for call in product(("on", "rest", "begin"), repeat=length):
        if all(word != "on" or at and call[at - 1] != "rest" for at, word in enumerate(call)):
            found.append(call)
    return found


def step(game, state, word, answer):
    now = ((None if word == "rest" else 0, word == "begin"), (None if answer == "rest" else 0, answer == "begin"))
    return ruling.tick(game, state, now, (None, None))


def answered(game, call, state=0, other=False):
    """Whether it has an answer, by trying all that the voice 1 can do."""
    if not call:
        return True
    for answer in words(other):
        behind, fault = step(game, state, call[0], answer)
        if not fault and answered(game, call[1:], behind, answer != "rest"):
            return True
    return False


def behind(game, lot, word):
    """All pairs that come of a LOT without a fault."""
    found = set()
    for state, other in lot:
        for answer in words(other):
            following, fault = step(game, state, word, answer)
            if not fault:
                found.add((following, answer != "rest"))
    return tuple(sorted(found))


def lots(game):
    """All pairs of what the voice 0 has and the pairs that can be; whether nothing can be behind some CALL."""
    found, waiting, ends = {FIRST}, [FIRST], False
    while waiting:
        one, lot = waiting.pop()
        for word in words(one):
            place = (word != "rest", behind(game, lot, word))
            if not place[1]:
                ends = True
            elif place not in found:
                found.add(place)
                waiting.append(place)
    return found, ends


def holds(game, told):
    """Whether LOTS hold, by the words of [433]."""
    if FIRST not in told:
        return False
    for one, lot in told:
        for word in words(one):
            can = behind(game, lot, word)
            if not any((word != "rest", part) in told for many in range(1, len(can) + 1) for part in combinations(can, many)):
                return False
    return True


# Found by trying: its CALLS lead to 1,808 unlike ones.
GREAT = (2, (
    (((("silent", 0), ("begins", 0)), 0, 0), ((("begins", 1),), 2, 1), ((("sounds", 1), ("begins", 1)), 4, 0), ((("begins", 0), ("sounds", 1)), 0, 1), ((), 3, 0)),
    (((("silent", 1), ("begins", 0)), 1, 0), ((("begins", 1),), 4, 1), ((("silent", 1),), 4, 0), ((("begins", 0),), 3, 0), ((), 4, 0)),
    (((("begins", 1), ("silent", 1)), 3, 0), ((("begins", 1),), 2, 1), ((("silent", 0),), 1, 0), ((("silent", 0),), 5, 1), ((), 0, 0)),
    (((("begins", 1), ("sounds", 1)), 4, 1), ((("silent", 0),), 0, 0), ((("silent", 1), ("begins", 0)), 2, 0), ((("silent", 0), ("silent", 1)), 5, 0), ((), 1, 0)),
    (((("sounds", 1), ("begins", 1)), 5, 1), ((("begins", 1), ("sounds", 1)), 0, 0), ((("begins", 1), ("sounds", 1)), 3, 0), ((("silent", 0),), 2, 0), ((), 5, 0)),
    (((("begins", 0), ("begins", 1)), 4, 0), ((("begins", 1),), 4, 1), ((("silent", 0),), 5, 0), ((("begins", 0), ("silent", 1)), 0, 1), ((), 2, 0))))


class Calls(Refusing, unittest.TestCase):
    def test_arguments(self):
        self.assertIs(is_answered(game=FREE, call=("begin", "on")), True)
        self.assertIs(are_all_answered(game=FREE), True)
        self.assertEqual(check_call(game=FREE, paper=call_paper(game=FREE)), "all")

    def test_against_all_that_can_be_done(self):
        counts = {True: 0, False: 0}
        for start in range(260):
            numbers = Numbers(start + 11)
            game = ruling.rule(numbers, 2, 1 + numbers.below(4), ruling.OPEN, 2 + numbers.below(4), 1 + numbers.below(4), 2)
            found, ends = lots(game)
            counts[ends] += 1
            self.assertIs(self.same(are_all_answered, game), not ends, game)
            for length in range(5):
                for call in calls(length):
                    self.assertIs(is_answered(game, call), answered(game, call), (game, call))
            if does_hold(game):
                self.assertIs(ends, False)
            paper = self.same(call_paper, game)
            self.assertEqual(self.same(check_call, game, paper), paper[0])
            if ends:
                self.assertEqual(paper[0], "none")
                self.assertIs(answered(game, paper[1]), False)
                self.refused(BadPaper, "none", check_call, game, ("none", paper[1][:-1]))
                self.assertEqual(check_call(game, ("none", paper[1] + ("rest", "begin"))), "none")
            else:
                self.assertEqual(paper[0], "all")
                self.refused(BadPaper, "none", check_call, game, ("none", ("begin", "on", "rest")))
            self.lots(game, found, ends, numbers)
        self.assertTrue(min(counts.values()) > 40, counts)

    def lots(self, game, found, ends, numbers):
        told = tuple(sorted(found))
        tries = [told]
        for _ in range(4):
            at = numbers.below(len(told))
            one, lot = told[at]
            # A row left out, and one in which there is less.
            tries.append(told[:at] + told[at + 1:])
            less = lot[:numbers.below(len(lot))] + lot[-1:]
            tries.append(tuple(sorted(set(told[:at] + ((one, less),) + told[at + 1:]))))
            tries.append(tuple(sorted(set(told) | {(one, less)})))
        for rows in tries:
            if holds(game, rows):
                self.assertFalse(ends)
                self.assertEqual(check_call(game, ("all", rows)), "all")
            else:
                self.refused(BadPaper, "all", check_call, game, ("all", rows))
        self.assertEqual(holds(game, told), not ends)

    def test_told_ahead_alone(self):
        """Each CALL has an answer, though the voice 1 does not hold."""
        self.assertIs(does_hold(AHEAD), False)
        self.assertIs(are_all_answered(AHEAD), True)
        self.assertEqual(check_call(AHEAD, call_paper(AHEAD)), "all")
        self.assertIs(is_answered(AHEAD, ("rest", "begin", "on", "rest", "begin") * 400), True)

    def test_calls(self):
        never = (2, ((((), 0, 1),),))
        self.assertIs(is_answered(never, ()), True)
        self.assertIs(is_answered(never, ("rest",)), False)
        self.assertEqual(call_paper(never)[0], "none")
        count = (2, tuple((((("begins", 0),), at + 1, 0), ((), at, 0)) for at in range(5)) + ((((("begins", 0),), 5, 1), ((), 5, 0)),))
        self.assertIs(is_answered(count, ("begin",) * 5 + ("on",) * 1995), True)
        self.assertIs(is_answered(count, ("begin",) * 5 + ("on",) * 1994 + ("begin",)), False)
        self.assertEqual(check_call(count, ("none", ("begin",) * 5 + ("on",) * 1994 + ("begin",))), "none")
        self.assertEqual(check_call(count, call_paper(count)), "none")
        self.refused(BadPaper, "none", check_call, count, ("none", ()))
        self.refused(BadPaper, "none", check_call, count, ("none", ("begin",) * 5 + ("on",) * 1995))

    def test_papers_of_many_kinds(self):
        told = call_paper(AHEAD)[1]
        self.assertEqual(check_call(AHEAD, ("all", told)), "all")
        for bad in ODD + ("all", ("all",), ["all", told], ("all", told, 0), ("none",), ("none", (), ()), ("plan", told), (("all",), told)):
            self.refused(BadPaper, "form", check_call, AHEAD, bad)
        at = told.index(FIRST)
        for bad in ODD + (0, list(told), told[:at] + told[at + 1:], told + told[-1:], told[::-1]):
            self.refused(BadPaper, "all", check_call, AHEAD, ("all", bad))
        for bad in ODD + (0, list(FIRST), FIRST[:1], FIRST + (0,), (0, FIRST[1]), (None, FIRST[1]), (False, ()), (False, [(0, False)]), (False, ([0, False],)),
                          (False, ((0, 0),)), (False, ((False, False),)), (False, ((3, False),)), (False, ((-1, False),)), (False, ((0, False, 0),)),
                          (False, ((0,),)), (False, (None,)), (False, ((0, False), (0, False))), (False, ((0, True), (0, False))), (False, None)):
            self.refused(BadPaper, "all", check_call, AHEAD, ("all", told[:at] + (bad,) + told[at + 1:]))
        # Rows that are not asked for have to be LOTS of the STATES, too.
        self.assertEqual(check_call(AHEAD, ("all", tuple(sorted(told + ((False, ((0, False), (1, False))),))))), "all")
        for lot in (((0, False), (3, False)), ((0, False), (2, False), (3, True)), ((0, False), (6, False))):
            self.refused(BadPaper, "all", check_call, AHEAD, ("all", tuple(sorted(told + ((False, lot),)))))
        never = (2, ((((), 0, 1),),))
        for bad in ODD + (0, ["rest"], ("on",), ("rest", "on"), ("Rest",), ("rest", None), ("rest", 0), "rest", (("rest",),), ("rest",) * 2001):
            self.refused(BadPaper, "none", check_call, never, ("none", bad))
        self.assertEqual(check_call(never, ("none", ("rest",) * 2000)), "none")
        self.refused(BadPaper, "all", check_call, never, ("all", (FIRST,)))

    def test_errors(self):
        rows = ((is_answered, (None,)), (are_all_answered, ()), (call_paper, ()), (check_call, (None,)))
        state = ((((), 0, 0),),)
        for call, rest in rows:
            for odd in ODD + tuple(ruling.no_rules()) + ((1, state), (3, state), with_parts(("pitch", 0, 0, 0)), with_parts(("step", 0, 0, 0)),
                                                         with_parts(("apart", 0, 1, 0, 0)), with_parts(("class", 0, 1, ()))):
                self.refused(BadRule, odd, call, odd, *rest)
        for odd in ODD + (0, ["rest"], "rest", ("on",), ("rest", "on"), ("begin", "rest", "on"), ("Begin",), ("rest", 0), ("rest", None), ("rest",) * 2001,
                          (("rest",),), ("begin", True), ("", "rest")):
            if odd != ():
                self.refused(BadCall, odd, is_answered, FREE, odd)
        self.assertIs(is_answered(FREE, ("rest",) * 2000), True)
        self.assertIs(is_answered(FREE, ()), True)

    def test_many_lots(self):
        """At most 2,000 unlike ones. (No open GAME with six STATES comes to more; so the number is lowered here.)"""
        found, ends = lots(GREAT)
        self.assertEqual(len(found), 1808)
        self.assertIs(are_all_answered(GREAT), not ends)
        paper = call_paper(GREAT)
        self.assertEqual(check_call(GREAT, paper), paper[0])
        with patch("tacthouse.calls.MOST_LOTS", 1808):
            self.assertEqual(call_paper(GREAT), paper)
        with patch("tacthouse.calls.MOST_LOTS", 1807):
            for call, rest in ((are_all_answered, ()), (call_paper, ()), (check_call, (None,)), (is_answered, ((),))):
                self.refused(TooMany, 1807, call, GREAT, *rest)
            self.refused(BadCall, ("on",), is_answered, GREAT, ("on",))
            self.assertIs(is_answered(FREE, ()), True)


if __name__ == "__main__":
    unittest.main()

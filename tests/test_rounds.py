"""Rounds of any number of singers: [510] to [512], and tacthouse.rounds."""

import unittest

from tacthouse.distances import first_clash
from tacthouse.errors import BadGood, BadPaper, BadRound, BadScore, TooMany
from tacthouse.rounds import are_all_clean, check_round, least_clash, round_paper, wanted_rests
from tacthouse.units import board_of
from tests import making, plain
from tests.refusing import ODD, Refusing
from tests.test_distances import clashes
from tests.test_units import SCORE, TOO_MANY, VERY, A, no_rounds, unit

GOOD = (0, 3, 4, 7, 8, 9)
CALLS = ((are_all_clean, (GOOD,)), (wanted_rests, ()), (least_clash, (GOOD,)), (round_paper, (GOOD,)), (check_round, (GOOD, None)))


def all_clashes(score, song, good):
    """(K, first tick) of each DISTANCE that is not clean, going through all distances."""
    found = []
    for number in range(1, plain.length(score) // song[1] + 1):
        ticks = clashes(score, song, good, number)
        if ticks:
            found.append((number, ticks[0]))
    return found


def wanted(score, song):
    """All rests of what a later singer has less what an earlier one has, at any tick."""
    heard, rests = [pitch for pitch, _ in plain.sounds(score, song[0])], set()
    for tick, later in enumerate(heard):
        for ahead in range(tick - song[1], -1, -song[1]):
            if later is not None and heard[ahead] is not None:
                rests.add((heard[ahead] - later) % 12)
    return tuple(sorted(rests))


def good_till(score, song, number):
    """All rests that come of lesser distances than this one, and 0."""
    heard, rests = [pitch for pitch, _ in plain.sounds(score, song[0])], {0}
    for apart in range(1, number):
        rests |= {(one - other) % 12 for one, other in zip(heard, heard[apart * song[1]:]) if None not in (one, other)}
    return tuple(sorted(rests))


def changed(boards, at, board):
    """BOARDS with another BOARD at one place."""
    return boards[:at] + ((boards[at][0], board),) + boards[at + 1:]


def moved(board, rest, first, last):
    """A BOARD whose first PITCH at a rest has FIRST and LAST moved."""
    places = board[rest]
    pitch, begin, end = places[0]
    return board[:rest] + (((pitch, begin + first, end + last),) + places[1:],) + board[rest + 1:]


class Rounds(Refusing, unittest.TestCase):
    def hold(self, score, song, good):
        """The paper that is told holds; its word."""
        paper = self.same(round_paper, score, song, good)
        self.assertEqual(self.same(check_round, score, song, good, paper), paper[0])
        return paper

    def refuse(self, place, score, song, good, paper):
        self.refused(BadPaper, place, check_round, score, song, good, paper)

    def test_arguments(self):
        self.assertIs(are_all_clean(score=SCORE, song=(0, 3, 0), good=(0,)), True)
        self.assertEqual(wanted_rests(score=SCORE, song=(0, 3, 0)), (0,))
        self.assertEqual(least_clash(score=SCORE, song=(0, 3, 0), good=()), (1, 3))
        paper = round_paper(score=SCORE, song=(0, 3, 0), good=())
        self.assertEqual(paper, ("clash", 1, 3))
        self.assertEqual(check_round(score=SCORE, song=(0, 3, 0), good=(), paper=paper), "clash")

    def test_against_a_plain_look(self):
        words, far, spans = {"clean": 0, "clash": 0}, 0, set()
        for start in range(420):
            numbers = making.Numbers(start + 4000)
            voices = 1 + numbers.below(3)
            score = making.score(numbers, voices, 2 + numbers.below(11), 90)
            if start % 4 == 0:
                score += (("slow", len(score) - 1, 2 + numbers.below(2)),)
            if start % 3 == 0:
                score += (("up", 0, numbers.below(9) - 4), ("ends", len(score) - 1, (len(score), 0, len(score))))
            song = (numbers.below(voices), 1 + numbers.below(4 if start % 2 else 14), 0)
            good = tuple(rest for rest in range(12) if rest == 0 or numbers.below(5))
            if start % 2:
                good = good_till(score, song, 1 + numbers.below(5))
            spans.add(song[1] // unit(score, song[0], song[1]))
            found = all_clashes(score, song, good)
            self.assertEqual(self.same(wanted_rests, score, song), wanted(score, song), (score, song))
            self.assertIs(self.same(are_all_clean, score, song, good), not found)
            self.assertEqual(self.same(least_clash, score, song, good), min(found, default=None), (score, song, good))
            far += bool(found) and found[0][0] > 2
            paper = self.hold(score, song, good)
            words[paper[0]] += 1
            if found:
                self.assertEqual(paper[1:], found[0])
                for number in range(1, 5):
                    ticks = clashes(score, song, good, number)
                    for tick in range(-1, plain.length(score) + 2):
                        told = ("clash", number, tick)
                        if tick in ticks:
                            self.assertEqual(check_round(score, song, good, told), "clash")
                        elif tick % 3 == 0:
                            self.refuse("clash", score, song, good, told)
            else:
                self.refuse("clash", score, song, good, ("clash", 1, song[1]))
        self.assertTrue(min(words.values()) > 80 and far > 20 and len(spans) > 10, (words, far, spans))

    def test_nothing_to_hear(self):
        silent = (("block", (((None, 5),),)), ("again", 0, 10 ** 12))
        for good in ((), GOOD):
            self.assertIs(are_all_clean(silent, (0, 5, 0), good), True)
            self.assertIsNone(least_clash(silent, (0, 7, 0), good))
            self.assertEqual(self.hold(silent, (0, 5, 0), good)[0], "clean")
        self.assertEqual(wanted_rests(silent, (0, 5, 0)), ())
        # A single singer's beginning and end, and just behind the end.
        one = (("block", (((0, 5),),)),)
        self.assertEqual(least_clash(one, (0, 4, 0), ()), (1, 4))
        self.assertIsNone(least_clash(one, (0, 5, 0), ()))
        self.assertIs(are_all_clean(one, (0, 40, 0), ()), True)

    def test_good_rests_are_of_the_later_singer_less_the_earlier_one(self):
        up = (("block", (((0, 1), (4, 1)),)),)
        self.assertEqual(wanted_rests(up, (0, 1, 0)), (8,))
        self.assertIs(are_all_clean(up, (0, 1, 0), (8,)), True)
        self.assertIs(are_all_clean(up, (0, 1, 0), (4,)), False)
        self.assertEqual(wanted_rests((up[0], ("back", 0)), (0, 1, 0)), (4,))
        wide = (("block", (((-60, 1), (59, 1)),)),)
        self.assertEqual(wanted_rests(wide, (0, 1, 0)), (1,))

    def test_again_and_again(self):
        """Against the same a few times, by the fact on how many further times the nearest one lies."""
        row = ((0, 2), (None, 1), (5, 1), (7, 3), (None, 2))
        for delay in (1, 2, 5, 9, 12, 13, 30, 48):
            small, great = [(("block", (row,)), ("again", 0, many)) for many in (60, 10 ** 12)]
            for good in ((0, 2, 5, 7, 10), (0, 5), (1, 2, 5, 7, 10), ()):
                found = all_clashes(small, (0, delay, 0), good)
                self.assertEqual(least_clash(great, (0, delay, 0), good), min(found, default=None), (delay, good))
                self.assertEqual(wanted_rests(great, (0, delay, 0)), wanted(small, (0, delay, 0)))
                self.assertIs(are_all_clean(great, (0, delay, 0), good), not found)
                self.assertEqual(self.hold(great, (0, delay, 0), good)[0], "clash" if found else "clean")

    def test_the_rests_come_round(self):
        """A row of LENGTH 47 or 49 by a SPAN of 48: only behind 48 times the same comes to the same rest."""
        for length, many in ((47, 1), (49, 1), (47, 48), (49, 48), (47, 49), (49, 49), (47, 10 ** 12), (49, 10 ** 12)):
            score = (("block", (((0, 1), (None, length - 1)),)), ("again", 0, many))
            told = (length, 48 * length) if many > 48 else None
            self.assertEqual(least_clash(score, (0, 48, 0), ()), told)
            self.assertEqual(wanted_rests(score, (0, 48, 0)), (0,) if told else ())
            self.hold(score, (0, 48, 0), ())

    def test_far_distances(self):
        """What is alike with itself for ever; the least clash only far behind."""
        block, rest, other = ("block", (((0, 1), (None, 2)),)), ("block", (((None, 3),),)), ("block", (((1, 1), (None, 2)),))
        times = 10 ** 12
        score = (block, rest, ("again", 1, times), ("then", 0, 2), other, ("then", 3, 4), ("again", 0, times), ("then", 6, 5))
        # So many times 0, one 0, so many rests, one 1.
        good = (0,)
        self.assertEqual(least_clash(score, (0, 3, 0), good), (times + 1, 3 * (2 * times + 1)))
        self.assertEqual(least_clash(score, (0, 3, 0), (11,)), (1, 3))
        self.assertEqual(least_clash(score, (0, 3, 0), (0, 11)), None)
        self.assertEqual(wanted_rests(score, (0, 3, 0)), (0, 11))
        # Backwards the 1 comes first.
        back = score + (("back", 7),)
        self.assertEqual(least_clash(back, (0, 3, 0), good), (times + 1, 3 * (times + 1) + 2))
        self.assertEqual(wanted_rests(back, (0, 3, 0)), (0, 1))
        turned = score + (("turned", 7), ("slow", 8, 2))
        self.assertEqual(least_clash(turned, (0, 6, 0), good), (times + 1, 6 * (2 * times + 1)))
        self.assertEqual(wanted_rests(turned, (0, 6, 0)), (0, 1))
        # Blocks ahead, between and behind do not matter; a rest of 10 ** 36 ticks does.
        long = score + (("again", 2, times), ("again", 8, times), ("then", 0, 9), ("then", 10, 4))
        self.assertEqual(least_clash(long, (0, 3, 0), good), (times ** 3 + 1, 3 * (times ** 3 + 1)))
        self.assertEqual(least_clash(long, (0, 1, 0), good), (3 * (times ** 3 + 1), 3 * (times ** 3 + 1)))
        paper = self.hold(long, (0, 3, 0), good)
        self.assertEqual(paper, ("clash", times ** 3 + 1, 3 * (times ** 3 + 1)))
        for wrong in (("clash", times ** 3, 3 * (times ** 3 + 1)), ("clash", times ** 3 + 2, 3 * (times ** 3 + 1)),
                      ("clash", times ** 3 + 1, 3 * (times ** 3 + 1) + 1), ("clash", 10 ** 900, 10 ** 900), ("clash", 1, 3)):
            self.refuse("clash", long, (0, 3, 0), good, wrong)
        self.assertEqual(self.hold(long, (0, 3, 0), (0, 11))[0], "clean")

    def test_very_long(self):
        self.assertEqual(wanted_rests(VERY, (0, 6, 0)), (0,))
        self.assertEqual(least_clash(VERY, (0, 6, 0), ()), (1, 8))
        self.assertEqual(wanted_rests(VERY, (0, 3, 0)), (0,))
        self.assertEqual(least_clash(VERY, (0, 3, 0), ()), (2, 8))
        self.assertEqual(least_clash(VERY, (0, 5, 0), ()), (1, 8))
        # Up by 2 for the second half.
        two, half = VERY[:4] + (("up", 3, 2), ("then", 3, 4)), 6 * 10 ** 36
        self.assertEqual(wanted_rests(two, (0, 6, 0)), (0, 10))
        self.assertEqual(least_clash(two, (0, 6, 0), (0,)), (1, half + 2))
        self.assertIs(are_all_clean(two, (0, 6, 0), (0, 10)), True)
        self.assertEqual(self.hold(two, (0, 6, 0), (0, 10))[0], "clean")
        self.assertEqual(self.hold(two, (0, 6, 0), (0, 2)), ("clash", 1, half + 2))
        self.assertIsNone(least_clash(VERY, (1, 288, 0), (0,)))
        self.assertEqual(least_clash(VERY, (1, 288, 0), ()), (1, 288))

    def test_spans(self):
        """A SPAN of 48, and of more."""
        score = (("block", (((0, 2), (2, 4)),)), ("again", 0, 100))
        for call, rest in CALLS[:4]:
            call(score, (0, 96, 0), *rest)
            self.refused(TooMany, 48, call, score, (0, 98, 0), *rest)
            self.refused(TooMany, 48, call, score, (0, 97, 0), *rest)
            self.refused(TooMany, 48, call, score, (0, 49, 0), *rest)
            self.refused(TooMany, 48, call, score, (0, 10 ** 40, 0), *rest)
        self.assertEqual(least_clash(score, (0, 96, 0), GOOD), None)
        self.assertEqual(least_clash(score, (0, 94, 0), GOOD), min(all_clashes(score, (0, 94, 0), GOOD)))
        # A paper of any sort is looked at behind it.
        for paper in (None, ("clean", ()), ("clash", 1, 98)):
            self.refused(TooMany, 48, check_round, score, (0, 98, 0), GOOD, paper)
        self.assertEqual(check_round(score, (0, 96, 0), GOOD, round_paper(score, (0, 96, 0), GOOD)), "clean")

    def test_papers_with_boards(self):
        a, b = ("block", (((0, 1), (4, 1), (None, 1)),)), ("block", (((7, 2), (None, 1)),))
        score = (a, b, ("again", 0, 5), ("then", 2, 1), ("turned", 1), ("back", 3))
        song, good, top = (0, 3, 0), (0, 3, 5, 8), (5, 0, False, False, 1)
        self.assertIs(are_all_clean(score, song, (0, 3, 4, 7)), True)
        good = (0, 3, 4, 7)
        word, boards = self.hold(score, song, good)
        self.assertEqual(word, "clean")
        self.assertEqual({varied: board for varied, board in boards}[top], board_of(score, 0, 3))
        self.assertEqual(sorted(varied for varied, _ in boards),
                         [(0, 0, False, True, 1), (1, 0, False, True, 1), (2, 0, False, True, 1), (3, 0, False, True, 1), top])
        # In any order, but none twice, none left out, none that is not asked for.
        self.assertEqual(check_round(score, song, good, (word, boards[::-1])), word)
        for at, (varied, board) in enumerate(boards):
            self.refuse("clean", score, song, good, (word, boards[:at] + boards[at + 1:]))
            self.refuse("clean", score, song, good, (word, boards + (boards[at],)))
            for odd in (True, False, None, -1):
                for place in range(5):
                    other = varied[:place] + (odd,) + varied[place + 1:]
                    if other != varied or type(odd) is not type(varied[place]):
                        self.refuse("clean", score, song, good, (word, boards[:at] + ((other, board),) + boards[at + 1:]))
            self.refuse("clean", score, song, good, (word, boards[:at] + ((list(varied), board),) + boards[at + 1:]))
        self.refuse("clean", score, song, good, (word, boards + (((4, 0, False, False, 1), ((), (), ())),)))
        self.refuse("clean", score, song, good, (word, boards + ((top, ((), (), ())),)))
        for odd in (boards[0][:1], boards[0] + (0,), list(boards[0]), boards[0] + boards[0]):
            self.refuse("clean", score, song, good, (word, (odd,) + boards[1:]))
            self.refuse("clean", score, song, good, (word, boards[1:] + (odd,)))
        self.refuse("clean", score, song, good, (word, ()))

    def test_wider_boards(self):
        a, b = ("block", (((0, 1), (4, 1), (None, 1)),)), ("block", (((7, 2), (None, 1)),))
        score, song, good = (a, b, ("again", 0, 5), ("then", 2, 1)), (0, 3, 0), (0, 5, 9)
        word, boards = self.hold(score, song, good)
        numbers = {varied[0]: at for at, (varied, _) in enumerate(boards)}
        # Of each one any that is narrower is refused; one that is wider, only if those that are put together are not as wide.
        for number, at in numbers.items():
            board = boards[at][1]
            for rest in range(3):
                if board[rest]:
                    pitch, first, last = board[rest][0]
                    for shift in ((1, 0), (0, -1)):
                        if first + shift[0] <= last + shift[1]:
                            self.refuse("clean", score, song, good, (word, changed(boards, at, moved(board, rest, *shift))))
                    self.refuse("clean", score, song, good, (word, changed(boards, at, board[:rest] + (board[rest][1:],) + board[rest + 1:])))
        top = numbers[3]
        for shift in ((-1, 0), (0, 1), (0, 3), (-1, 2)):
            wide = changed(boards, top, moved(boards[top][1], 1, *shift))
            self.assertEqual(check_round(score, song, good, (word, wide)), word)
        # 7 begins at the unit 16.
        for last in (4, 10 ** 60):
            wide = changed(boards, top, moved(boards[top][1], 1, 0, last))
            self.refuse("clean", score, song, good, (word, wide))
            self.assertEqual(check_round(score, song, (0, 3, 5, 9), (word, wide)), word)
        # A block that is told as longer: its repetition has to be so, too.
        block = moved(boards[numbers[0]][1], 0, 0, 1)
        self.refuse("clean", score, song, good, (word, changed(boards, numbers[0], block)))
        both = changed(changed(boards, numbers[0], block), numbers[2], moved(boards[numbers[2]][1], 0, 0, 1))
        self.refuse("clean", score, song, good, (word, both))
        told = dict(boards)
        self.assertEqual(told[(3, 0, False, False, 1)][0][0], (0, 0, 12))
        self.assertEqual(check_round(score, song, good, (word, changed(both, top, moved(boards[top][1], 0, 0, 1)))), word)
        # A pitch more.
        more = ((0, 0, 0), (5, 3, 3))
        here = changed(boards, numbers[1], (more,) + boards[numbers[1]][1][1:])
        self.refuse("clean", score, song, good, (word, here))
        # So wide that the facts would not hold: 7 from the first tick on, too.
        self.assertEqual(told[(3, 0, False, False, 1)][0][1], (7, 15, 15))
        for first in (13, 12, 11):
            wide = changed(boards, top, (((0, 0, 12), (7, first, 15)),) + boards[top][1][1:])
            if first < 12:
                self.refuse("clean", score, song, good, (word, wide))
            else:
                self.assertEqual(check_round(score, song, good, (word, wide)), word)

    def test_parts_that_are_moved(self):
        """A part that begins within a round stands at other rests; again at each of its times."""
        score = (("block", (((0, 1), (None, 1)),)), ("block", (((0, 1),),)), ("again", 0, 4), ("then", 1, 2))
        song, good = (0, 3, 0), (0,)
        word, boards = self.hold(score, song, good)
        told = dict(boards)
        self.assertEqual(told[(2, 0, False, False, 1)], (((0, 0, 6),), ((0, 4, 4),), ((0, 2, 2),)))
        self.assertEqual(told[(3, 0, False, False, 1)], (((0, 0, 3),), ((0, 1, 7),), ((0, 5, 5),)))
        at = [varied[0] for varied, _ in boards].index(2)
        for board in (((), ((0, 4, 4),), ((0, 2, 2),)), (((0, 0, 6),), (), ((0, 2, 2),)), (((0, 0, 6),), ((0, 4, 4),), ()),
                      (((0, 0, 5),), ((0, 4, 4),), ((0, 2, 2),)), (((0, 0, 6),), ((0, 4, 4),), ((0, 3, 3),))):
            self.refuse("clean", score, song, good, (word, changed(boards, at, board)))
        # FIRST and LAST need not have the rest themselves.
        for board in ((((0, 0, 6),), ((0, 3, 4),), ((0, 2, 2),)), (((0, 0, 6),), ((0, 4, 4),), ((0, 1, 3),))):
            self.refuse("clean", score, song, good, (word, changed(boards, at, board)))
            wide = changed(boards, at, board)
            top = [varied[0] for varied, _ in boards].index(3)
            self.assertEqual(check_round(score, song, good, (word, changed(wide, top, (((0, 0, 8),), ((0, 0, 8),), ((0, 0, 9),))))), word)
        many = (("block", (((0, 1), (None, 1)),)), ("again", 0, 10 ** 12))
        self.assertEqual(dict(self.hold(many, song, good)[1])[(1, 0, False, False, 1)],
                         board_of(many, 0, 3))
        last = dict(round_paper(many, song, good)[1])[(1, 0, False, False, 1)]
        for rest in range(3):
            for shift in ((1, 0), (0, -1)):
                wrong = (((0, 0, False, False, 1), (((0, 0, 0),), (), ())), ((1, 0, False, False, 1), moved(last, rest, *shift)))
                self.refuse("clean", many, song, good, ("clean", wrong))
            wide = (((0, 0, False, False, 1), (((0, 0, 0),), (), ())), ((1, 0, False, False, 1), moved(last, rest, 0, 1)))
            self.assertEqual(check_round(many, song, good, ("clean", wide)), "clean")

    def test_others_that_are_asked_for(self):
        """Boards of others may stand there if they and their parts are as told."""
        a, b = ("block", (((0, 1), (None, 1)),)), ("block", (((0, 2),),))
        score, song, good = (a, b, ("then", 0, 1), ("again", 2, 3)), (0, 4, 0), (0,)
        word, boards = self.hold(score, song, good)
        self.assertEqual(len(boards), 4)
        for at, (varied, board) in enumerate(boards):
            for rest in range(4):
                self.refuse("clean", score, song, good, (word, changed(boards, at, board[:rest] + (((0, -1, 3),),) + board[rest + 1:])))
                self.refuse("clean", score, song, good, (word, changed(boards, at, board[:rest] + (((0, 3, 2),),) + board[rest + 1:])))

    def test_forms_of_papers(self):
        score, song, good = (A, ("again", 0, 4)), (0, 3, 0), (0,)
        word, boards = self.hold(score, song, good)
        for odd in ODD + (("clean",), ("clean", (), ()), ("clash",), ("clash", 1), ("clash", 1, 3, 0), ("Clean", ()), ["clean", boards], ("", boards)):
            self.refuse("form", score, song, good, odd)
        for odd in [one for one in ODD if one != ()] + [list(boards), boards[0], (boards,)]:
            self.refuse("clean", score, song, good, ("clean", odd))
        board = boards[1][1]
        for odd in ODD + (board[:2], board + ((),), list(board), (None,) + board[1:], ([],) + board[1:], ((None,),) + board[1:],
                          (((0, 0),),) + board[1:], (((0, 0, 9, 0),),) + board[1:], (([0, 0, 9],),) + board[1:],
                          (((True, 0, 9),),) + board[1:], (((0, False, 9),),) + board[1:], (((0, 0, True),),) + board[1:],
                          (((None, 0, 9),),) + board[1:], (((0, None, 9),),) + board[1:], (((0, 0, None),),) + board[1:],
                          (((0, 0, 9), (0, 0, 9)),) + board[1:], (((0, 0, 9), (-1, 0, 9)),) + board[1:],
                          (((0, 0, 9), (61, 0, 9)),) + board[1:], (((-61, 0, 9), (0, 0, 9)),) + board[1:]):
            self.refuse("clean", score, song, good, ("clean", changed(boards, 1, odd)))
        self.assertEqual(check_round(score, song, tuple(range(12)), ("clean", changed(boards, 1, (((-60, 0, 9), (0, 0, 9), (60, 0, 9)),) + board[1:]))), "clean")
        for odd in ODD:
            self.refuse("clean", score, song, good, ("clean", boards + (odd,)))
            self.refuse("clash", score, song, (), ("clash", odd, 3))
            self.refuse("clash", score, song, (), ("clash", 1, odd))
        self.assertEqual(check_round(score, song, (), ("clash", 1, 3)), "clash")
        self.assertEqual(check_round(score, song, (), ("clash", 3, 10)), "clash")
        for wrong in (("clash", 0, 3), ("clash", -1, 3), ("clash", 1, 2), ("clash", 1, 5), ("clash", 1, 12), ("clash", 4, 12), ("clash", 2, 3)):
            self.refuse("clash", score, song, (), wrong)
        self.refuse("clash", score, song, (0,), ("clash", 1, 3))

    def test_least_is_as_each_distance_tells(self):
        for start in range(60):
            numbers = making.Numbers(start + 77)
            score = making.score(numbers, 1, 8, 60)
            song, good = (0, 1 + numbers.below(6), 0), (0, 1, 2, 3, 5, 11)
            told = least_clash(score, song, good)
            for number in range(1, 7 if told is None else told[0] + 1):
                tick = first_clash(score, song, good, number)
                self.assertEqual(tick, told[1] if told is not None and told[0] == number else None)

    def test_errors(self):
        for call, rest in CALLS:
            nothing = tuple(None for _ in rest)
            for odd in no_rounds(1) + [(0, 1, 1), (0, 1, -1), (0, 1, 24)]:
                self.refused(BadRound, odd, call, SCORE, odd, *nothing)
            self.refused(BadScore, None, call, None, None, *nothing)
            self.refused(BadScore, 1, call, (A, None), None, *nothing)
            self.refused(TooMany, 200, call, TOO_MANY, None, *nothing)
            if rest:
                for odd in ODD + (0, [0], (12,), (-1,), (1, 0), (0, 0), (True,), (0, None), (0, 10 ** 900), ((0,),)):
                    if odd != ():
                        # Ahead of a SPAN that is too great.
                        self.refused(BadGood, odd, call, SCORE, (0, 10 ** 40, 0), odd, *nothing[1:])


if __name__ == "__main__":
    unittest.main()

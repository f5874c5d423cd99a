"""What two voices do in turn, the voice 1 answering: places of a game, their ranks, and plans.

A PLACE is a pair (STATE, SITUATION). A MOVE is what the voice 0 does, an ANSWER what the voice 1 does then.
"""

from tacthouse.kinds import is_from_to, is_integer, is_row
from tacthouse.moments import Looker
from tacthouse.situations import FIRST_OF_TWO, is_situation_of_two, moment_of_two, situation_of_two

FIRST = (0, FIRST_OF_TWO)


def moves_in(does_sound, faces):
    """All that a voice can do; of a beginning the FACES are told, or None if there are none."""
    moves = [("begin", face) for face in faces] + [("rest",)]
    return [("on",)] + moves if does_sound else moves


class Play:
    """A GAME with its FACES."""

    def __init__(self, game, faces):
        self.looker = Looker(game)
        self.faces = faces

    def is_place(self, state, situation):
        """Whether two values are a STATE and a SITUATION."""
        return is_from_to(state, 0, len(self.looker.states) - 1) and is_situation_of_two(situation, self.faces)

    def places(self):
        """All PLACES, whether they can come or not."""
        situations = [(one, other, None) for one in (False, True) for other in (False, True) if not (one and other)]
        situations.extend([(True, True, face) for face in self.faces])
        return [(state, situation) for state in range(len(self.looker.states)) for situation in situations]

    def moves(self, situation):
        """All MOVES of the voice 0."""
        return moves_in(situation[0], self.faces if situation[1] else [None])

    def answers(self, situation, move):
        """All ANSWERS of the voice 1 to a MOVE."""
        return moves_in(situation[1], [None] if move[0] == "rest" else self.faces)

    def behind(self, place, move, answer):
        """The PLACE behind a MOVE and an ANSWER, None of a fault."""
        face = None
        if move[0] != "rest" and answer[0] != "rest":
            face = answer[1] if answer[0] == "begin" else move[1] if move[0] == "begin" else place[1][2]
        state, fault = self.looker.change(moment_of_two(move[0], answer[0], face))[place[0]]
        return None if fault else (state, situation_of_two(move[0], answer[0], face))

    def ranks(self):
        """A dict of the least RANKS of all PLACES that have one."""
        outcomes = {}
        for place in self.places():
            outcomes[place] = [[self.behind(place, move, answer) for answer in self.answers(place[1], move)]
                               for move in self.moves(place[1])]
        ranks, found, rank = {}, list(outcomes), 0
        while found:
            rank += 1
            found = [place for place in outcomes if place not in ranks and can_force(outcomes[place], ranks)]
            for place in found:
                ranks[place] = rank
        return ranks

    def answer_in(self, place, move, ranks):
        """An ANSWER behind which no fault can be forced, by all RANKS; the PLACE has no RANK."""
        for answer in self.answers(place[1], move):
            behind = self.behind(place, move, answer)
            if behind is not None and behind not in ranks:
                return answer
        return None

    def plan(self, ranks):
        """The PLAN of a PAPER, the first PLACE having no RANK."""
        rows, seen, waiting = [], {FIRST: True}, [FIRST]
        while waiting:
            place = waiting.pop()
            for move in self.moves(place[1]):
                answer = self.answer_in(place, move, ranks)
                rows.append((place[0], place[1], move, answer))
                behind = self.behind(place, move, answer)
                if behind not in seen:
                    seen[behind] = True
                    waiting.append(behind)
        return tuple(sorted(rows))

    def told_plan(self, plan):
        """A dict of the ANSWERS of a PLAN, by PLACE and MOVE; None if a value has not the form of one."""
        if not isinstance(plan, tuple):
            return None
        told, before = {}, None
        for row in plan:
            if not is_row(row, 4, 4) or not self.is_place(row[0], row[1]):
                return None
            if not is_move(row[2], self.moves(row[1])) or not is_move(row[3], self.answers(row[1], row[2])):
                return None
            if before is not None and not before < row[:3]:
                return None
            before = row[:3]
            told[((row[0], row[1]), row[2])] = row[3]
        return told

    def does_plan_hold(self, plan):
        """Whether a value is a PLAN by which the voice 1 holds."""
        told = self.told_plan(plan)
        if told is None:
            return False
        used, seen, waiting = 0, {FIRST: True}, [FIRST]
        while waiting:
            place = waiting.pop()
            for move in self.moves(place[1]):
                behind = self.behind(place, move, told[(place, move)]) if (place, move) in told else None
                if behind is None:
                    return False
                used += 1
                if behind not in seen:
                    seen[behind] = True
                    waiting.append(behind)
        return used == len(told)

    def told_ranks(self, rows):
        """A dict of RANKS by PLACE; None if a value has not the form of RANKS."""
        if not isinstance(rows, tuple):
            return None
        told, before = {}, None
        for row in rows:
            if not is_row(row, 3, 3) or not self.is_place(row[0], row[1]) or not is_integer(row[2]) or row[2] < 1:
                return None
            if before is not None and not before < row[:2]:
                return None
            before = row[:2]
            told[before] = row[2]
        return told

    def do_ranks_hold(self, rows):
        """Whether a value is RANKS by which the voice 0 can make a fault."""
        told = self.told_ranks(rows)
        if told is None or FIRST not in told:
            return False
        for place in told:
            lesser = {other: True for other in told if told[other] < told[place]}
            outcomes = [[self.behind(place, move, answer) for answer in self.answers(place[1], move)]
                        for move in self.moves(place[1])]
            if not can_force(outcomes, lesser):
                return False
        return True


def can_force(outcomes, ranks):
    """Whether by some MOVE each ANSWER is a fault, or leads to one of the PLACES that are told."""
    return any([all([behind is None or behind in ranks for behind in row]) for row in outcomes])


def is_move(thing, moves):
    """Whether a value is one of some MOVES or ANSWERS."""
    if not is_row(thing, 1, 2) or thing not in moves:
        return False
    # True and False are equal to 1 and 0.
    return not isinstance(thing[-1], bool)

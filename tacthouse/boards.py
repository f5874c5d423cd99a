"""Boards: for each rest of units the pitches that a voice has there, with the first and the last such unit.

They are kept here as a list with, for each rest, a dict of pairs (FIRST, LAST) by PITCH.
"""

from math import gcd

from tacthouse.errors import TooMany
from tacthouse.signs import lengths_of
from tacthouse.varied import asked_of, block_events, parts_of, rising, top_of

MOST_SPAN = 48


def span_by(unit, ticks):
    """The SPAN of so many ticks, if it is not too great."""
    if ticks // unit > MOST_SPAN:
        raise TooMany(MOST_SPAN)
    return ticks // unit


class Boards:
    """The boards of VARIED SIGNS that a SCORE asks for, in a voice, by a UNIT and a SPAN."""

    def __init__(self, score, voice, unit, span):
        self.signs = score
        self.voice = voice
        self.unit = unit
        self.span = span
        self.lengths = lengths_of(score)
        self.boards = {}

    def put_all(self):
        """Puts the true boards of all VARIED SIGNS there."""
        for varied in rising(asked_of(self.signs)):
            self.boards[varied] = self.built(varied)

    def units(self, varied):
        """How many UNITS a VARIED SIGN lasts."""
        return self.lengths[varied[0]] * varied[4] // self.unit

    def built(self, varied):
        """The board of a VARIED SIGN whose parts are there."""
        made, ahead = [{} for _ in range(self.span)], 0
        if self.signs[varied[0]][0] == "block":
            for pitch, long in block_events(self.signs, varied, self.voice):
                for at in range(ahead, ahead + long // self.unit):
                    if pitch is not None:
                        put_place(made[at % self.span], pitch, at, at)
                ahead += long // self.unit
        for part, many in parts_of(self.signs, varied):
            made = with_board(made, self.repeated(part, many), ahead)
            ahead += self.units(part) * many
        return made

    def repeated(self, part, many):
        """The board of a VARIED SIGN so many times, one behind the other."""
        units = self.units(part)
        # Behind so many times the rests come round: FIRST is in the first of them, LAST in as many last ones.
        turn = self.span // gcd(self.span, units)
        few = min(turn, many)
        made, times = self.boards[part], 1
        for digit in f"{few:b}"[1:]:
            made, times = with_board(made, made, times * units), times * 2
            if digit == "1":
                made, times = with_board(made, self.boards[part], times * units), times + 1
        return with_board(made, made, (many - few) * units) if many > few else made

    def top_board(self):
        """The board of the SCORE as it is."""
        return self.boards[top_of(self.signs)]


def true_boards(score, voice, unit, span):
    """The boards of all VARIED SIGNS that a SCORE asks for."""
    boards = Boards(score, voice, unit, span)
    boards.put_all()
    return boards


def as_told(board):
    """A BOARD as it is told."""
    return tuple([tuple([(pitch,) + places[pitch] for pitch in sorted(list(places))]) for places in board])


def put_place(places, pitch, first, last):
    """Puts a PITCH with FIRST and LAST to the others of a rest."""
    if pitch in places:
        first, last = min(first, places[pitch][0]), max(last, places[pitch][1])
    places[pitch] = (first, last)


def with_board(board, more, ahead):
    """A board with a further one, so many UNITS later."""
    made, span = [dict(places) for places in board], len(board)
    for rest, places in enumerate(more):
        into = made[(rest + ahead) % span]
        for pitch, (first, last) in places.items():
            put_place(into, pitch, first + ahead, last + ahead)
    return made

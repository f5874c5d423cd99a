"""The nearest clash of a voice with itself, a whole number of spans of units later, without unfolding.

A PART is (how many units, board, best): the board as in tacthouse.boards, by what is left of each pitch by 12; best is
the pair of the least number of units by which two clash, and of the first unit from which on they do, or None.
"""

from math import gcd

from tacthouse.boards import put_place, with_board
from tacthouse.varied import asked_of, block_events, parts_of, rising, top_of


def sooner(one, other):
    """The lesser one of two pairs, the first one perhaps None."""
    return other if one is None else min(one, other)


class Nearest:
    """The PARTS of all VARIED SIGNS that a SCORE asks for, in a voice, by a UNIT, a SPAN and GOOD."""

    def __init__(self, score, voice, unit, span, good):
        self.signs = score
        self.voice = voice
        self.unit = unit
        self.span = span
        self.bad = [rest not in good for rest in range(12)]
        self.parts = {}
        for varied in rising(asked_of(score)):
            self.parts[varied] = self.built(varied)

    def best(self):
        """What is best in the whole SCORE, or None."""
        return self.parts[top_of(self.signs)][2]

    def built(self, varied):
        """The PART of a VARIED SIGN whose parts are there."""
        if self.signs[varied[0]][0] == "block":
            return self.block_part(varied)
        made = self.nothing()
        for part, many in parts_of(self.signs, varied):
            made = self.joined(made, self.repeated(self.parts[part], many))
        return made

    def nothing(self):
        """The PART of no units."""
        return (0, [{} for _ in range(self.span)], None)

    def block_part(self, varied):
        """The PART of a block."""
        units, board, best = self.nothing()
        for pitch, long in block_events(self.signs, varied, self.voice):
            for unit in range(units, units + long // self.unit):
                if pitch is not None:
                    places, rest = board[unit % self.span], pitch % 12
                    for one, (_, last) in places.items():
                        if self.bad[(one - rest) % 12]:
                            best = sooner(best, (unit - last, last))
                    put_place(places, rest, unit, unit)
            units += long // self.unit
        return (units, board, best)

    def joined(self, one, other):
        """Two PARTS, one behind the other."""
        units, board, best = one
        more, other_board, other_best = other
        if other_best is not None:
            best = sooner(best, (other_best[0], units + other_best[1]))
        for rest, places in enumerate(board):
            later = other_board[(rest - units) % self.span]
            for left, (_, last) in places.items():
                for right, (first, _) in later.items():
                    if self.bad[(left - right) % 12]:
                        best = sooner(best, (units + first - last, last))
        return (units + more, with_board(board, other_board, units), best)

    def repeated(self, one, many):
        """A PART so many times, one behind the other."""
        units = one[0]
        # Behind so many times the rests come round: what is nearest lies within one time more.
        few = min(many, self.span // gcd(self.span, units) + 1)
        made = one
        for digit in f"{few:b}"[1:]:
            made = self.joined(made, made)
            if digit == "1":
                made = self.joined(made, one)
        _, board, best = made
        if many > few:
            board = with_board(board, board, (many - few) * units)
        return (units * many, board, best)

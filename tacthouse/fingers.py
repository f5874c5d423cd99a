"""What a player's hand can do: where it plays each pitch, how it comes from place to place, and at what price.

PRICES from each PLACE to each PLACE are kept as in tacthouse.least: None where there is no way.
"""

from tacthouse.errors import BadInstrument
from tacthouse.kinds import is_ascending_to, is_from_to, is_row
from tacthouse.least import cost_behind
from tacthouse.ropes import Rope
from tacthouse.scores import need_both
from tacthouse.signs import HIGHEST, LONGEST

MOST_PLACES = 6


def are_sounds(thing):
    """Whether a value is the SOUNDS of an INSTRUMENT."""
    if not is_row(thing, 1, MOST_PLACES):
        return False
    return all([is_ascending_to(lot, -HIGHEST, HIGHEST) and len(lot) <= 24 for lot in thing])


def is_square(thing, places, most):
    """Whether a value has an integer from 0 to most for each PLACE and each PLACE."""
    if not is_row(thing, places, places):
        return False
    return all([is_row(row, places, places) and all([is_from_to(one, 0, most) for one in row]) for row in thing])


def check_instrument(thing):
    """Refuses any value that is no INSTRUMENT."""
    if not is_row(thing, 3, 3):
        raise BadInstrument("form")
    if not are_sounds(thing[0]):
        raise BadInstrument("sounds")
    if not is_square(thing[1], len(thing[0]), LONGEST):
        raise BadInstrument("moves")
    if not is_square(thing[2], len(thing[0]), 10 ** 6):
        raise BadInstrument("prices")


def need_played(score, voice, instrument):
    """Refuses what is no SCORE, no VOICE of it, no INSTRUMENT."""
    need_both(score, voice)
    check_instrument(instrument)


class Hand:
    """A hand on an INSTRUMENT.

    What it tells of a KNOT is (how many EVENTS with a PITCH, ticks ahead of the first one, TABLE, ticks behind the last
    one); of one without such EVENTS (0, all ticks, None, all ticks).
    """

    def __init__(self, instrument):
        self.sounds, self.moves, self.prices = instrument
        self.ways = {}

    def of_event(self, pitch, long):
        """What is told of an EVENT."""
        if pitch is None:
            return (0, long, None, long)
        return (1, 0, self.pitch_table(pitch), 0)

    def pitch_table(self, pitch):
        """The TABLE of a single EVENT with a PITCH."""
        rows = []
        for place, lot in enumerate(self.sounds):
            rows.append(tuple([0 if place == other and pitch in lot else None for other in range(len(self.sounds))]))
        return tuple(rows)

    def way(self, ticks):
        """The PRICES of going from PLACE to PLACE within so many ticks."""
        ticks = min(ticks, LONGEST)
        if ticks not in self.ways:
            rows = []
            for moves, prices in zip(self.moves, self.prices):
                rows.append(tuple([price if move <= ticks else None for move, price in zip(moves, prices)]))
            self.ways[ticks] = tuple(rows)
        return self.ways[ticks]

    def joined(self, one, other):
        """What is told of two KNOTS, one behind the other."""
        count, ahead, table, behind = one
        more, other_ahead, other_table, other_behind = other
        if not count:
            return (more, ahead + other_ahead, other_table, other_behind if more else behind + other_behind)
        if not more:
            return (count, ahead, table, behind + other_behind)
        across = cost_behind(table, self.way(behind + other_ahead))
        return (count + more, ahead, cost_behind(across, other_table), other_behind)


def least_of(table):
    """The least price in a TABLE, with the PLACES of the first such one: (PRICE, A, B); None if there is none."""
    found = []
    for one, row in enumerate(table):
        found.extend([(price, one, other) for other, price in enumerate(row) if price is not None])
    return min(found, default=None)


class Played:
    """A VOICE of a SCORE that a hand plays on an INSTRUMENT."""

    def __init__(self, score, voice, instrument):
        self.hand = Hand(instrument)
        self.rope = Rope(score, voice)
        self.told = self.rope.measured(self.hand)

    def whole(self):
        """What is told of the whole."""
        return self.told[self.rope.top]

    def joint(self, one, other, first, last):
        """The PLACES at the end of a KNOT and at the beginning of a next one, of a cheapest way from first to last."""
        left, right = self.told[one], self.told[other]
        way, found = self.hand.way(left[3] + right[1]), []
        for near, price in enumerate(left[2][first]):
            for far, rest in enumerate(way[near]):
                parts = (price, rest, right[2][far][last])
                if None not in parts:
                    found.append((sum(parts), near, far))
        return min(found)[1:]

    def place_of(self, number):
        """The PLACE of the EVENT with a PITCH of this number, in one cheapest FINGERING; None if there is none.

        Whatever the number is, the same PLACES are chosen at the same joint: so all numbers are of one FINGERING.
        """
        best, knot, left = least_of(self.whole()[2]), self.rope.top, number
        if best is None:
            return None
        _, first, last = best
        while self.rope.halves[knot] is not None:
            one, other = self.rope.halves[knot]
            count, more = self.told[one][0], self.told[other][0]
            if not count or not more:
                knot = one if count else other
            else:
                near, far = self.joint(one, other, first, last)
                if left < count:
                    knot, last = one, near
                else:
                    knot, first, left = other, far, left - count
        return first

"""How far a voice drifts when each of its steps is taken by a ratio, and a scale tells how great the ratios are."""

from tacthouse.errors import BadNumber, BadTable
from tacthouse.kinds import is_from_to, is_row
from tacthouse.ropes import Rope
from tacthouse.scales import is_ratio, need_scale
from tacthouse.scores import need_both
from tacthouse.vectors import worth

WIDEST = 24


def is_table(thing):
    """Whether a value is a TABLE."""
    return is_row(thing, 2 * WIDEST + 1, 2 * WIDEST + 1) and all([is_ratio(ratio) for ratio in thing])


def need_drift(score, voice, table, scale):
    """Refuses what is no SCORE, no VOICE of it, no TABLE, no SCALE; the Drift."""
    need_both(score, voice)
    if not is_table(table):
        raise BadTable(table)
    need_scale(scale)
    return Drift(score, voice, table, scale)


def narrowed(interval):
    """The interval in the TABLE that one counts as."""
    if -WIDEST <= interval <= WIDEST:
        return interval
    return interval % WIDEST if interval > 0 else -(-interval % WIDEST)


class Drift:
    """The DRIFT of a VOICE of a SCORE.

    What is told of a KNOT is None, if it has no EVENT with a PITCH, or (how many of these, the first PITCH, the last
    PITCH, the sum behind the last one, the least of (sum, number), the greatest of (sum, contrary number)): sums being
    counted from the first one, numbers too.
    """

    def __init__(self, score, voice, table, scale):
        self.steps = [worth(scale, ratio) for ratio in table]
        self.rope = Rope(score, voice)
        self.told = self.rope.measured(self)

    def whole(self):
        """What is told of the whole."""
        return self.told[self.rope.top]

    def step(self, one, other):
        """What is added from a PITCH to the next one."""
        return self.steps[narrowed(other - one) + WIDEST]

    def of_event(self, pitch, _):
        """What is told of an EVENT."""
        return None if pitch is None else (1, pitch, pitch, 0, (0, 0), (0, 0))

    def joined(self, one, other):
        """What is told of two KNOTS, one behind the other."""
        if one is None or other is None:
            return other if one is None else one
        count, first, last, total, least, most = one
        more, other_first, other_last, other_total, other_least, other_most = other
        ahead = total + self.step(last, other_first)
        least = min(least, (ahead + other_least[0], count + other_least[1]))
        most = max(most, (ahead + other_most[0], other_most[1] - count))
        return (count + more, first, other_last, ahead + other_total, least, most)

    def behind(self, number):
        """The sum behind the EVENT with a PITCH of this number."""
        knot, left, total = self.rope.top, number, 0
        while self.rope.halves[knot] is not None:
            one, other = self.rope.halves[knot]
            knot = one
            if self.told[one] is None:
                knot = other
            elif left >= self.told[one][0]:
                left -= self.told[one][0]
                total += self.told[one][3] + self.step(self.told[one][2], self.told[other][1])
                knot = other
        return total


def whole_drift(score, voice, table, scale):
    """The sum behind the last EVENT with a PITCH, None if there is none."""
    told = need_drift(score, voice, table, scale).whole()
    return None if told is None else told[3]


def drift_range(score, voice, table, scale):
    """The least and the greatest sum, each with the number of the first EVENT behind which it is so, or None."""
    told = need_drift(score, voice, table, scale).whole()
    return None if told is None else (told[4], (told[5][0], -told[5][1]))


def drift_behind(score, voice, table, scale, number):
    """The sum behind the EVENT with a PITCH of this number."""
    drift = need_drift(score, voice, table, scale)
    if drift.whole() is None or not is_from_to(number, 0, drift.whole()[0] - 1):
        raise BadNumber(number)
    return drift.behind(number)

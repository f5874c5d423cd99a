"""Whether a playing is in time: speeds and shifts by which its times are near the ticks that were wanted.

STROKES are a tuple of pairs (TIME, tick), both ascending.
"""

from tacthouse.kinds import is_ascending_to, is_from_to, is_row
from tacthouse.matches import MOST_TIME
from tacthouse.quotients import (NOUGHT, contrary, divided, is_above_nought, is_fraction, is_less, minus, plus,
                                 product_of, reduced, whole)


def is_gait(thing):
    """Whether a value is a GAIT."""
    if not is_row(thing, 3, 3) or not is_above_nought(thing[0]) or not is_above_nought(thing[1]):
        return False
    return not is_less(thing[1], thing[0]) and is_from_to(thing[2], 0, MOST_TIME)


def rises(strokes):
    """For each two STROKES (how much the TIME rises, how many ticks)."""
    return [(far[0] - near[0], far[1] - near[1]) for at, far in enumerate(strokes) for near in strokes[:at]]


def least_speed(strokes, gait):
    """The least SPEED by which STROKES are in time, None if there is none.

    For one SPEED some SHIFT is near all of them, if it is near each two of them.
    """
    low, high, off = gait
    for rise, ticks in rises(strokes):
        least, most = reduced(rise - 2 * off, ticks), reduced(rise + 2 * off, ticks)
        low = least if is_less(low, least) else low
        high = most if is_less(most, high) else high
    return None if is_less(high, low) else low


def ahead_of(stroke, speed):
    """How much greater the TIME of a stroke is than its tick by a SPEED."""
    return minus(whole(stroke[0]), product_of(speed, whole(stroke[1])))


def shift_by(strokes, speed, off):
    """A SHIFT by which STROKES are in time by a SPEED, by which they are."""
    greatest = ahead_of(strokes[0], speed)
    for stroke in strokes[1:]:
        ahead = ahead_of(stroke, speed)
        greatest = ahead if is_less(greatest, ahead) else greatest
    return minus(greatest, whole(off))


def are_near(strokes, gait, speed, shift):
    """Whether two values are a SPEED and a SHIFT by which STROKES are in time."""
    low, high, off = gait
    if not is_fraction(speed) or is_less(speed, low) or is_less(high, speed) or not is_fraction(shift):
        return False
    apart = [minus(ahead_of(stroke, speed), shift) for stroke in strokes]
    return not any([is_less(whole(off), one) or is_less(one, whole(-off)) for one in apart])


def bad_lot(strokes, gait):
    """The numbers of two or three STROKES that are not in time alone, all of them not being so."""
    numbers = range(len(strokes))
    lots = [(one, two) for one in numbers for two in range(one + 1, len(strokes))]
    # By a fact on what is convex in the plane three are enough, of three or more.
    lots.extend([lot + (three,) for lot in lots for three in range(lot[1] + 1, len(strokes))])
    for lot in lots:
        if is_bad_lot(strokes, gait, lot):
            break
    return lot


def is_bad_lot(strokes, gait, thing):
    """Whether a value tells two or three STROKES that are not in time alone."""
    if not is_ascending_to(thing, 0, len(strokes) - 1) or not 2 <= len(thing) <= 3:
        return False
    return least_speed([strokes[number] for number in thing], gait) is None


def tightest_off(strokes, low, high):
    """The least FRACTION that would do as OFF.

    Each two STROKES want half of what they are apart by a SPEED: two lines, (what by low, slope) each, and it is the
    greatest line that counts. From low on it is gone along until it does not fall any more.
    """
    lines = [(NOUGHT, NOUGHT)]
    for rise, ticks in rises(strokes):
        by_low, slope = minus(whole(rise), product_of(low, whole(ticks))), whole(ticks)
        for line in ((by_low, contrary(slope)), (contrary(by_low), slope)):
            lines.append((divided(line[0], whole(2)), divided(line[1], whole(2))))
    end, at = minus(high, low), NOUGHT
    while True:
        line, worth = top_line(lines, at)
        cross = next_cross(lines, line, worth, at)
        # A line that falls is met by the first one, which does not.
        if not is_less(line[1], NOUGHT) or is_less(end, cross):
            break
        at = cross
    return worth if not is_less(line[1], NOUGHT) else plus(line[0], product_of(line[1], end))


def top_line(lines, at):
    """The greatest line at a place, of several the one with the greatest slope, and what it is there."""
    best, worth = None, None
    for line in lines:
        here = plus(line[0], product_of(line[1], at))
        if best is None or is_less(worth, here) or here == worth and is_less(best[1], line[1]):
            best, worth = line, here
    return best, worth


def next_cross(lines, line, worth, at):
    """The first place behind one at which a greatest line meets one with a greater slope, or None."""
    found = None
    for other in lines:
        if is_less(line[1], other[1]):
            here = plus(other[0], product_of(other[1], at))
            cross = plus(at, divided(minus(worth, here), minus(other[1], line[1])))
            if found is None or is_less(cross, found):
                found = cross
    return found


class StartJudge:
    """Tells of NOTES whether a PLAYING can start at the first one; with a GAIT: whether it does so in time."""

    def __init__(self, playing, gait):
        self.wanted = playing
        self.gait = gait
        self.known = {}

    def judged(self, notes):
        """Whether it can; of the same ticks from NOTE to NOTE the time is looked at once."""
        if len(notes) < len(self.wanted):
            return False
        if any([pitch != heard for (pitch, _), (_, heard) in zip(self.wanted, notes)]):
            return False
        if self.gait is None:
            return True
        ticks = tuple([tick - notes[0][0] for tick, _ in notes])
        if ticks not in self.known:
            strokes = [(time, tick) for (_, time), tick in zip(self.wanted, ticks)]
            self.known[ticks] = least_speed(strokes, self.gait) is not None
        return self.known[ticks]

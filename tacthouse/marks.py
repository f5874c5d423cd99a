"""Two players of one score, each by a clock that drifts: where they have to come together again."""

from tacthouse.begins import Begins
from tacthouse.errors import BadClocks, BadFraction, BadMarks, BadNumber, BadVoices, TooMany
from tacthouse.kinds import is_ascending_to, is_from_to, is_row
from tacthouse.quotients import (NOUGHT, divided, floor_of, is_above_nought, is_less, minus, plus, product_of, whole)
from tacthouse.scores import need_score, voice_count
from tacthouse.signs import lengths_of
from tacthouse.tempos import bends_of, need_tempo, one_back, worth_at
from tacthouse.timed import second_of

MOST_MARKS = 60
MOST_SPAN = 400


def is_clock(thing):
    """Whether a value is a pair (LOW, HIGH)."""
    if not is_row(thing, 2, 2) or not is_above_nought(thing[0]) or not is_above_nought(thing[1]):
        return False
    return not is_less(thing[1], thing[0])


def need_clocks(clocks):
    """Refuses any value that is no CLOCKS."""
    if not is_row(clocks, 2, 2) or not is_clock(clocks[0]) or not is_clock(clocks[1]):
        raise BadClocks(clocks)


def clock_drift(clocks):
    """The DRIFT."""
    need_clocks(clocks)
    return drift_of(clocks)


def drift_of(clocks):
    """The DRIFT of what are CLOCKS."""
    (low, high), (other_low, other_high) = clocks
    one, other = minus(high, other_low), minus(other_high, low)
    return other if is_less(one, other) else one


def need_players(score, tempo, clocks, tol):
    """Refuses what is no SCORE, no TEMPO, no CLOCKS, no TOL."""
    need_score(score)
    need_tempo(tempo)
    need_clocks(clocks)
    need_above_nought(tol)


def need_above_nought(fraction):
    """Refuses any value that is no FRACTION above nought."""
    if not is_above_nought(fraction):
        raise BadFraction(fraction)


def reach_of(clocks, tol):
    """For how many SECONDS behind a MARK the players are within TOL; None if for ever."""
    drift = drift_of(clocks)
    return None if drift == NOUGHT else divided(tol, drift)


def tick_beyond(tempo, reach, mark):
    """The first tick at which the players are not within TOL, by a MARK alone."""
    return floor_of(worth_at(one_back(tempo), plus(second_of(tempo, mark), reach))) + 1


def first_apart(score, tempo, clocks, tol, marks):
    """The first tick at which the players are not within TOL by MARKS, or None."""
    need_players(score, tempo, clocks, tol)
    length = lengths_of(score)[-1]
    if not is_ascending_to(marks, 0, length) or not is_row(marks, 1, MOST_MARKS) or marks[0] != 0:
        raise BadMarks(marks)
    reach = reach_of(clocks, tol)
    if reach is None:
        return None
    for mark, following in zip(marks, marks[1:] + (length + 1,)):
        tick = tick_beyond(tempo, reach, mark)
        if tick < following:
            return tick
    return None


def latest_marks(score, tempo, clocks, tol):
    """The LATEST MARKS as a list of (first tick, step, many): so many ticks, a step from each to the next."""
    reach, length, mark, found = reach_of(clocks, tol), lengths_of(score)[-1], 0, []
    if reach is None:
        return found
    for (_, rate), bend in zip(tempo, bends_of(tempo) + [None]):
        # While a TEMPO keeps its rate, all MARKS are as far apart.
        ticks = divided(reach, rate)
        step = floor_of(ticks) + 1
        many = (length - mark) // step
        if bend is not None:
            many = min(many, floor_of(divided(minus(minus(bend, ticks), whole(mark)), whole(step))) + 1)
        if many > 0:
            found.append((mark + step, step, many))
            mark += many * step
        if bend is not None and is_less(whole(mark), bend):
            mark = tick_beyond(tempo, reach, mark)
            if mark > length:
                break
            found.append((mark, 1, 1))
    return found


def least_marks(score, tempo, clocks, tol):
    """How many MARKS there have to be at least, besides 0."""
    need_players(score, tempo, clocks, tol)
    return sum([many for _, _, many in latest_marks(score, tempo, clocks, tol)])


def latest_mark(score, tempo, clocks, tol, number):
    """The tick of this number of the LATEST MARKS."""
    need_players(score, tempo, clocks, tol)
    found = latest_marks(score, tempo, clocks, tol)
    if not is_from_to(number, 0, sum([many for _, _, many in found]) - 1):
        raise BadNumber(number)
    left = number
    for first, step, many in found:
        if left < many:
            break
        left -= many
    return first + step * left


def begins_by(score, voices, rate, clocks, tol):
    """What there is to know of MARKS at begins; None if the players are never apart."""
    need_score(score)
    if not is_ascending_to(voices, 0, voice_count(score) - 1) or voices == ():
        raise BadVoices(voices)
    need_above_nought(rate)
    need_clocks(clocks)
    need_above_nought(tol)
    drift = drift_of(clocks)
    if drift == NOUGHT:
        return None
    span = floor_of(divided(tol, product_of(drift, rate)))
    if span > MOST_SPAN:
        raise TooMany(MOST_SPAN)
    return Begins(score, voices, span)


def begin_marks(score, voices, rate, clocks, tol):
    """How many MARKS at begins there have to be at least; None if they cannot be had."""
    begins = begins_by(score, voices, rate, clocks, tol)
    if begins is None:
        return 0
    return begins.least_marks() if begins.bar() is None else None


def begin_bar(score, voices, rate, clocks, tol):
    """The BAR, or None."""
    begins = begins_by(score, voices, rate, clocks, tol)
    return None if begins is None else begins.bar()

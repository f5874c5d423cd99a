"""Logs of players whose clocks drift: whether they can be, and what is sure of two moments."""

from tacthouse.errors import BadLog, BadMoment, BadPaper, NoTimes
from tacthouse.kinds import is_row, is_worded
from tacthouse.quotients import NOUGHT, is_above_nought, is_fraction, is_from_nought, is_less, minus, plus
from tacthouse.steps import (bounds_of, free_times, is_moment, least_sums, moments_of, row_sum, time_of, times_fit,
                             times_from)


def is_player(thing):
    """Whether a value is a player of a LOG."""
    if not is_row(thing, 3, 3) or not is_above_nought(thing[0]) or not is_above_nought(thing[1]):
        return False
    low, high, readings = thing
    if is_less(high, low) or not is_row(readings, 1, 8) or not all([is_fraction(reading) for reading in readings]):
        return False
    return all([is_less(one, later) for one, later in zip(readings[:-1], readings[1:])])


def is_letter(log, thing):
    """Whether a value is one of LETTERS of a LOG, of which the players are looked through."""
    if not is_row(thing, 4, 4) or not is_moment(log, thing[0]) or not is_moment(log, thing[1]):
        return False
    sent, heard, least, most = thing
    if sent[0] == heard[0] or not is_from_nought(least):
        return False
    return most is None or is_fraction(most) and not is_less(most, least)


def need_log(thing):
    """The value itself, if it is a LOG."""
    if not is_row(thing, 2, 2) or not is_row(thing[0], 1, 3) or not is_row(thing[1], 0, 12):
        raise BadLog("form")
    for number, player in enumerate(thing[0]):
        if not is_player(player):
            raise BadLog(("player", number))
    for number, letter in enumerate(thing[1]):
        if not is_letter(thing, letter):
            raise BadLog(("letter", number))
    return thing


def log_moments(log):
    """All MOMENTS, ascending."""
    return tuple(moments_of(need_log(log)))


def log_steps(log):
    """All STEPS, ascending."""
    bounds = bounds_of(need_log(log))
    return tuple([(one, far, bounds[(one, far)]) for one, far in sorted(list(bounds))])


def do_fit(log, times):
    """Whether any value is TIMES that fit."""
    need_log(log)
    return times_fit(log, times)


def can_be(log):
    """Whether a LOG can be."""
    return log_paper(log)[0] == "times"


def log_paper(log):
    """A paper on whether a LOG can be."""
    found, ring = free_times(need_log(log))
    return ("ring", ring) if found is None else ("times", times_from(log, found))


def check_log(log, paper):
    """The first word of a paper that holds."""
    need_log(log)
    if is_worded(paper, "times", 2):
        if not times_fit(log, paper[1]):
            raise BadPaper("times")
        return "times"
    if not is_worded(paper, "ring", 2):
        raise BadPaper("form")
    if not is_ring_below(log, paper[1]):
        raise BadPaper("ring")
    return "ring"


def is_moment_row(log, thing, least):
    """Whether a value is a tuple of so many MOMENTS at least."""
    return isinstance(thing, tuple) and len(thing) >= least and all([is_moment(log, moment) for moment in thing])


def is_ring_below(log, thing):
    """Whether a value is a RING with a sum below nought."""
    if not is_moment_row(log, thing, 2) or len({moment for moment in thing}) != len(thing):
        return False
    total = row_sum(bounds_of(log), thing + thing[:1])
    return total is not None and is_less(total, NOUGHT)


def need_moments(log, one, far):
    """Refuses what is no LOG, no MOMENT of it, and a LOG that cannot be; the times of all MOMENTS that fit."""
    need_log(log)
    for moment in (one, far):
        if not is_moment(log, moment):
            raise BadMoment(moment)
    found, ring = free_times(log)
    if found is None:
        raise NoTimes(("ring", ring))
    return found


def most_behind(log, one, far):
    """The MOST of two MOMENTS, or None."""
    need_moments(log, one, far)
    sums = {one: NOUGHT}
    least_sums(bounds_of(log), sums, len(moments_of(log)))
    return sums.get(far)


def most_paper(log, one, far):
    """A paper on how far a MOMENT is behind another one at most."""
    found = need_moments(log, one, far)
    bounds, sums = bounds_of(log), {one: NOUGHT}
    ahead, _ = least_sums(bounds, sums, len(moments_of(log)))
    if far not in sums:
        return ("free", tuple([moment for moment in moments_of(log) if moment not in sums]))
    way = [far]
    while way[-1] != one:
        way.append(ahead[way[-1]])
    return ("most", tuple(way[::-1]), times_from(log, widest_times(bounds, sums, found)))


def widest_times(bounds, sums, found):
    """Times of all MOMENTS that fit, the least sums of ways from one being told, and any that fit.

    What no way leads to is as much later as is needed.
    """
    later = NOUGHT
    for (one, far), bound in bounds.items():
        if one not in sums and far in sums:
            wanted = minus(minus(sums[far], bound), found[one])
            if is_less(later, wanted):
                later = wanted
    return {moment: sums[moment] if moment in sums else plus(found[moment], later) for moment in found}


def check_most(log, one, far, paper):
    """The first word of a paper that holds on how far a MOMENT is behind another one at most."""
    need_moments(log, one, far)
    if is_worded(paper, "most", 3):
        if not is_most(log, one, far, paper[1], paper[2]):
            raise BadPaper("most")
        return "most"
    if not is_worded(paper, "free", 2):
        raise BadPaper("form")
    if not is_free(log, one, far, paper[1]):
        raise BadPaper("free")
    return "free"


def is_most(log, one, far, way, times):
    """Whether a value is a WAY from a MOMENT to another one, and TIMES that fit have just its sum between them."""
    if not is_moment_row(log, way, 1) or way[0] != one or way[-1] != far or not times_fit(log, times):
        return False
    total = row_sum(bounds_of(log), way)
    return total is not None and total == minus(time_of(times, far), time_of(times, one))


def is_free(log, one, far, lot):
    """Whether a value is an ascending tuple of MOMENTS, with far, without one, that no step leads into."""
    if not is_moment_row(log, lot, 1) or list(lot) != sorted({moment for moment in lot}):
        return False
    if far not in lot or one in lot:
        return False
    return all([start in lot or end not in lot for start, end in bounds_of(log)])

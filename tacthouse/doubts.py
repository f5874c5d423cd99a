"""Strokes of two ringers of which nobody can tell which one came first, their clocks drifting."""

from tacthouse.errors import TooMany
from tacthouse.quotients import plus, reduced
from tacthouse.strikes import Ringing, bottom_of, scaled

MOST_STRIKES = 400


def doubt_of(one, other, low, high, mark):
    """The FIRST DOUBT of two RINGERS whose LOW is less than HIGH."""
    bottom = bottom_of((one, other), (mark,))
    start = scaled(mark, bottom)
    # One more strike of each than is told about.
    rows = []
    for ringer in (one, other):
        times = Ringing(ringer, bottom).first_times(start, MOST_STRIKES + 1)
        rows.append([time - start for time in times])
    least, most = low[0] * high[1], high[0] * low[1]
    found = [(later, sooner, (sooner, later)) for later, sooner in soonest_pairs(rows[1], rows[0], least, most)]
    found += [(later, sooner, (later, sooner)) for later, sooner in soonest_pairs(rows[0], rows[1], least, most)]
    if not found:
        raise TooMany(MOST_STRIKES)
    later, _, pair = min(found)
    if later >= rows[0][MOST_STRIKES] or later >= rows[1][MOST_STRIKES]:
        raise TooMany(MOST_STRIKES)
    return tuple([plus(mark, reduced(time, bottom)) for time in pair])


def soonest_pairs(laters, sooners, least, most):
    """For each of some times the soonest of others that is no later and in doubt with it, as pairs (later, sooner)."""
    pairs, at = [], 0
    for later in laters:
        while at < len(sooners) and most * sooners[at] < least * later:
            at += 1
        if at < len(sooners) and sooners[at] <= later:
            pairs.append((later, sooners[at]))
    return pairs

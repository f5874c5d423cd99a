"""The moments and steps of a log, and the least sums of ways."""

from tacthouse.kinds import is_from_to, is_row
from tacthouse.quotients import NOUGHT, contrary, is_fraction, is_less, minus, plus, product_of, sum_of


def moments_of(log):
    """All MOMENTS, ascending."""
    return [(player, at) for player, (_, _, readings) in enumerate(log[0]) for at in range(len(readings))]


def is_moment(log, thing):
    """Whether a value is a MOMENT."""
    if not is_row(thing, 2, 2) or not is_from_to(thing[0], 0, len(log[0]) - 1):
        return False
    return is_from_to(thing[1], 0, len(log[0][thing[0]][2]) - 1)


def bounds_of(log):
    """A dict of all STEPS: by a pair of MOMENTS the BOUND that counts."""
    bounds = {}
    for player, (low, high, readings) in enumerate(log[0]):
        for at in range(len(readings) - 1):
            rise = minus(readings[at + 1], readings[at])
            put_bound(bounds, (player, at), (player, at + 1), product_of(high, rise))
            put_bound(bounds, (player, at + 1), (player, at), contrary(product_of(low, rise)))
    for sent, heard, least, most in log[1]:
        if most is not None:
            put_bound(bounds, sent, heard, most)
        put_bound(bounds, heard, sent, contrary(least))
    return bounds


def put_bound(bounds, one, far, bound):
    """Puts a step there, if it is the one that counts so far."""
    if (one, far) not in bounds or is_less(bound, bounds[(one, far)]):
        bounds[(one, far)] = bound


def are_times(log, thing):
    """Whether a value is TIMES of a LOG."""
    if not is_row(thing, len(log[0]), len(log[0])):
        return False
    for row, (_, _, readings) in zip(thing, log[0]):
        if not is_row(row, len(readings), len(readings)) or not all([is_fraction(time) for time in row]):
            return False
    return True


def time_of(times, moment):
    """The time of a MOMENT by TIMES."""
    return times[moment[0]][moment[1]]


def times_fit(log, times):
    """Whether any value is TIMES that fit."""
    if not are_times(log, times):
        return False
    for (one, far), bound in bounds_of(log).items():
        if is_less(bound, minus(time_of(times, far), time_of(times, one))):
            return False
    return True


def times_from(log, found):
    """TIMES by a dict of MOMENTS."""
    return tuple([tuple([found[(player, at)] for at in range(len(readings))])
                  for player, (_, _, readings) in enumerate(log[0])])


def least_sums(bounds, sums, rounds):
    """Makes sums of ways from MOMENTS less by steps, in so many rounds; by what step each MOMENT was reached last.

    The last thing told is a MOMENT that was reached even in the last round, or None.
    """
    ahead, late = {}, None
    for _ in range(rounds):
        late = None
        for (one, far), bound in bounds.items():
            if one in sums:
                reached = plus(sums[one], bound)
                if far not in sums or is_less(reached, sums[far]):
                    sums[far] = reached
                    ahead[far] = one
                    late = far
        if late is None:
            break
    return ahead, late


def free_times(log):
    """A dict of the times of all MOMENTS that fit, and None; or None, and a RING with a sum below nought."""
    moments = moments_of(log)
    sums = {moment: NOUGHT for moment in moments}
    ahead, late = least_sums(bounds_of(log), sums, len(moments))
    if late is None:
        return sums, None
    # Whoever goes back far enough from a MOMENT that is reached ever again is on a ring.
    for _ in moments:
        late = ahead[late]
    ring, moment = [late], ahead[late]
    while moment != late:
        ring.append(moment)
        moment = ahead[moment]
    return None, tuple(ring[::-1])


def row_sum(bounds, moments):
    """The sum of the BOUNDS of a row of MOMENTS, None if it has not all of the steps."""
    pairs = list(zip(moments[:-1], moments[1:]))
    if not all([pair in bounds for pair in pairs]):
        return None
    return sum_of([bounds[pair] for pair in pairs])

"""Rounds of voices: which pitches of two singers come together, and where they clash first."""

from tacthouse.errors import TooMany
from tacthouse.signs import lengths_of
from tacthouse.song import need_distance, need_good, need_song, unit_by
from tacthouse.stretches import Stretches

MOST_UNITS = 400


def units_apart(score, song, number):
    """The UNIT, and how many UNITS a DISTANCE has; not of too many."""
    voice, delay, _ = song
    unit = unit_by(score, voice, delay)
    units = number * (delay // unit)
    if units > MOST_UNITS:
        raise TooMany(MOST_UNITS)
    return unit, units


def is_over(score, song, number):
    """Whether the one singer ends ahead of the other one."""
    return number * song[1] >= lengths_of(score)[-1]


def pairs_of(score, song, number):
    """The PAIRS of a DISTANCE."""
    need_song(score, song)
    need_distance(score, song, number)
    unit, units = units_apart(score, song, number)
    return tuple(sorted(list(Stretches(score, song[0], unit, units).pairs())))


def is_clean(score, song, good, number):
    """Whether a DISTANCE is clean."""
    return first_clash(score, song, good, number) is None


def first_clash(score, song, good, number):
    """The first tick at which the 0-th singer and another one clash, or None."""
    need_song(score, song)
    need_good(good)
    need_distance(score, song, number)
    if is_over(score, song, number):
        return None
    unit, units = units_apart(score, song, number)
    pairs = Stretches(score, song[0], unit, units).pairs()
    above = number * song[2]
    places = [place for (one, other), place in pairs.items() if (one + above - other) % 12 not in good]
    return (min(places) + units) * unit if places else None

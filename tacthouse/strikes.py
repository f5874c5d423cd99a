"""Strokes of ringers as integers: all seconds that matter times one common bottom."""

from math import gcd

from tacthouse.quotients import divided, reduced


def bottom_of(ringers, seconds):
    """The least integer that makes integers of all strokes of some ringers, and of some SECONDS."""
    bottom = 1
    for _, start, beat in ringers:
        bottom = joint_bottom(joint_bottom(bottom, start), beat)
    for second in seconds:
        bottom = joint_bottom(bottom, second)
    return bottom


def joint_bottom(bottom, fraction):
    """The least multiple of a bottom that makes an integer of a FRACTION."""
    return bottom // gcd(bottom, fraction[1]) * fraction[1]


def scaled(fraction, bottom):
    """A FRACTION times a bottom that makes it an integer."""
    return fraction[0] * (bottom // fraction[1])


class Ringing:
    """A ringer by integers: it strikes with each stroke at its first time and all rounds ahead of it and behind it."""

    def __init__(self, ringer, bottom):
        (beats, strokes), start, beat = ringer
        self.strokes = strokes
        self.lap = beats * scaled(beat, bottom)
        self.times = {stroke: scaled(start, bottom) + stroke * scaled(beat, bottom) for stroke in strokes}

    def strikes_at(self, time):
        """Whether it strikes at a time."""
        return any([(time - self.times[stroke]) % self.lap == 0 for stroke in self.strokes])

    def first_times(self, start, many):
        """The first times, so many, from a start on at which it strikes."""
        firsts = sorted([(self.times[stroke] - start) % self.lap for stroke in self.strokes])
        size = len(firsts)
        return [start + firsts[at % size] + at // size * self.lap for at in range(many)]


def inverse(number, divisor):
    """The number by which a number without a common divisor leaves 1 by a divisor."""
    one, other, first, second = number % divisor, divisor, 1, 0
    while other:
        times = one // other
        one, other = other, one - times * other
        first, second = second, first - times * second
    return first % divisor


def common_times(one, other):
    """(time, lap) of all times that are the same for two pairs (time, lap); there are some."""
    time, lap = one
    other_time, other_lap = other
    share = gcd(lap, other_lap)
    rounds = (other_time - time) // share * inverse(lap // share, other_lap // share) % (other_lap // share)
    both = lap // share * other_lap
    return (time + rounds * lap) % both, both


def greatest_part(one, other):
    """The greatest FRACTION of which two FRACTIONS above nought are integer times."""
    bottom = joint_bottom(one[1], other)
    return reduced(gcd(scaled(one, bottom), scaled(other, bottom)), bottom)


def least_multiple(one, other):
    """The least FRACTION above nought that is an integer times either of two FRACTIONS above nought."""
    return divided((one[0] * other[0], one[1] * other[1]), greatest_part(one, other))

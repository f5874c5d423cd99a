"""All places of a voice at which some notes, next behind one another, are as a judge wants them, without unfolding.

A NOTE is an EVENT with a PITCH: (tick of its begin, PITCH) here. From each NOTE on a judge tells something of as many
NOTES as the width, or of those that are left: it is an object with the method judged(notes).
"""

from tacthouse.ropes import Rope


def later(notes, ticks):
    """NOTES, so many ticks later."""
    return tuple([(tick + ticks, pitch) for tick, pitch in notes])


def last_of(notes, many):
    """The last ones of NOTES, so many or all."""
    return notes[max(0, len(notes) - many):]


class Windows:
    """What a judge tells from each NOTE of a VOICE on.

    What is told of a KNOT is (ticks, how many NOTES, first ones, last ones, counts): the first and the last ones so far
    as what is judged of NOTES ahead, or of them, goes beyond the KNOT; counts are a dict of how often what is told of
    NOTES that all are within the KNOT.
    """

    def __init__(self, score, voice, width, judge):
        self.width = width
        self.judge = judge
        self.rope = Rope(score, voice)
        self.told = self.rope.measured(self)

    def of_event(self, pitch, long):
        """What is told of an EVENT."""
        if pitch is None:
            return (long, 0, (), (), {})
        notes = ((0, pitch),)
        ends = notes[:self.width - 1]
        return (long, 1, ends, ends, {self.judge.judged(notes): 1} if self.width == 1 else {})

    def joined(self, one, other):
        """What is told of two KNOTS, one behind the other."""
        ticks, count, firsts, lasts, counts = one
        more_ticks, more, other_firsts, other_lasts, other_counts = other
        counts, following = dict(counts), later(other_firsts, ticks)
        for verdict, often in other_counts.items():
            counts[verdict] = counts.get(verdict, 0) + often
        for at in range(len(lasts)):
            notes = (lasts[at:] + following)[:self.width]
            if len(notes) == self.width:
                verdict = self.judge.judged(notes)
                counts[verdict] = counts.get(verdict, 0) + 1
        firsts = (firsts + following)[:self.width - 1]
        lasts = last_of(lasts + later(other_lasts, ticks), self.width - 1)
        return (ticks + more_ticks, count + more, firsts, lasts, counts)

    def open_verdicts(self, told, following):
        """What is told from each of the last NOTES of a KNOT on, if there are following ones behind it."""
        behind = later(following, told[0])
        return [self.judge.judged((told[3][at:] + behind)[:self.width]) for at in range(len(told[3]))]

    def tally(self):
        """How often what is told, in the whole VOICE."""
        told = self.told[self.rope.top]
        counts = dict(told[4])
        for verdict in self.open_verdicts(told, ()):
            counts[verdict] = counts.get(verdict, 0) + 1
        return counts

    def note_told(self, verdict, number):
        """The number of the NOTE from which on this is told, of all such ones the one with this number."""
        knot, left, ahead, following = self.rope.top, number, 0, ()
        while self.rope.halves[knot] is not None:
            one, other = self.rope.halves[knot]
            near, far = self.told[one], self.told[other]
            between = (far[2] + later(following, far[0]))[:self.width - 1]
            here = near[4].get(verdict, 0) + self.open_verdicts(near, between).count(verdict)
            if left < here:
                knot, following = one, between
            else:
                knot, left, ahead = other, left - here, ahead + near[1]
        return ahead

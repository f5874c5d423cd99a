"""A voice of a score as a rope of knots: what can be told of two parts, one behind the other, can be told of the whole.

A KNOT is one EVENT, or two KNOTS with lesser numbers, one behind the other. What comes again is tied by doubling, so
even a very long voice has few KNOTS. A measure tells something of each of them: it is an object with the methods
of_event(pitch, long), and joined(one, other), of what it tells of two KNOTS, one behind the other.
"""

from tacthouse.varied import asked_of, block_events, parts_of, rising, top_of


class Rope:
    """What a SCORE reads as in a VOICE; the whole of it is the KNOT with the number top."""

    def __init__(self, score, voice):
        # Of each KNOT its EVENT or None, and its two halves or None.
        self.events = []
        self.halves = []
        self.numbers = {}
        tied = {}
        for varied in rising(asked_of(score)):
            if score[varied[0]][0] == "block":
                row = [self.put(event, None) for event in block_events(score, varied, voice)]
            else:
                row = [self.repeated(tied[part], many) for part, many in parts_of(score, varied)]
            tied[varied] = self.row(row)
        self.top = tied[top_of(score)]

    def put(self, event, halves):
        """The number of a KNOT, which is put there if it is not yet."""
        key = (event, halves)
        if key not in self.numbers:
            self.numbers[key] = len(self.events)
            self.events.append(event)
            self.halves.append(halves)
        return self.numbers[key]

    def row(self, knots):
        """The KNOT of some KNOTS, one behind another."""
        made = knots[0]
        for knot in knots[1:]:
            made = self.put(None, (made, knot))
        return made

    def repeated(self, knot, many):
        """The KNOT of a KNOT so many times."""
        made = knot
        for digit in f"{many:b}"[1:]:
            made = self.put(None, (made, made))
            if digit == "1":
                made = self.put(None, (made, knot))
        return made

    def measured(self, measure):
        """What a measure tells of each KNOT."""
        told = []
        for event, halves in zip(self.events, self.halves):
            if halves is None:
                told.append(measure.of_event(event[0], event[1]))
            else:
                told.append(measure.joined(told[halves[0]], told[halves[1]]))
        return told

"""Pairs of pitches that a voice has a fixed number of units apart, without unfolding.

A STRETCH of units is (how many, the first ones, the last ones, places): the pitches of the first and of the last units,
as many as the distance or all; and for each pair of pitches a distance apart the first unit at which the first one is.
"""

from tacthouse.signs import lengths_of
from tacthouse.varied import asked_of, block_events, parts_of, rising, top_of


class Stretches:
    """The stretches of all VARIED SIGNS that a SCORE asks for, in a voice, by a UNIT and a distance."""

    def __init__(self, score, voice, unit, distance):
        self.signs = score
        self.voice = voice
        self.unit = unit
        self.distance = distance
        self.lengths = lengths_of(score)
        self.found = {}
        for varied in rising(asked_of(score)):
            self.found[varied] = self.built(varied)

    def pairs(self):
        """For each pair of pitches that comes the first unit."""
        return self.found[top_of(self.signs)][3]

    def built(self, varied):
        """The stretch of a VARIED SIGN whose parts are there."""
        if self.signs[varied[0]][0] == "block":
            return self.block_stretch(varied)
        made = (0, [], [], {})
        for part, many in parts_of(self.signs, varied):
            made = self.joined(made, self.repeated(self.found[part], many))
        return made

    def block_stretch(self, varied):
        """The stretch of a block."""
        units = []
        for pitch, long in block_events(self.signs, varied, self.voice):
            units.extend([pitch] * (long // self.unit))
        places = {}
        for at, pair in enumerate(zip(units[:-self.distance], units[self.distance:])):
            if pair[0] is not None and pair[1] is not None:
                places.setdefault(pair, at)
        return (len(units), units[:self.distance], units[-self.distance:], places)

    def joined(self, one, other):
        """Two stretches, one behind the other."""
        many, firsts, lasts, places = one
        more, other_firsts, other_lasts, other_places = other
        places = dict(places)
        # Behind the pairs within the one those with one pitch among its last ones, then those within the other one.
        start = self.distance - len(lasts)
        for at, (pitch, later) in enumerate(zip(lasts, other_firsts[start:])):
            if pitch is not None and later is not None:
                places.setdefault((pitch, later), many - len(lasts) + at)
        for pair, at in other_places.items():
            places.setdefault(pair, many + at)
        if len(firsts) < self.distance:
            firsts = (firsts + other_firsts)[:self.distance]
        if len(other_lasts) < self.distance:
            other_lasts = (lasts + other_lasts)[-self.distance:]
        return (many + more, firsts, other_lasts, places)

    def repeated(self, one, many):
        """A stretch so many times, one behind the other."""
        units, firsts, lasts, places = one
        # All that can come has come behind so many times.
        few = min(many, self.distance // units + 2)
        made = one
        for digit in f"{few:b}"[1:]:
            made = self.joined(made, made)
            if digit == "1":
                made = self.joined(made, one)
        return (units * many,) + made[1:]

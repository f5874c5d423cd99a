"""Two rules looked through together, whatever the voices do.

A PLACE is a triple (STATE of the other RULE, STATE of the RULE, SITUATION).
"""

from tacthouse.kinds import is_from_to, is_row
from tacthouse.lines import put_tick
from tacthouse.moments import Looker
from tacthouse.situations import (FIRST_OF_ONE, FIRST_OF_TWO, deeds_of_one, deeds_of_two, is_situation_of_one,
                                  is_situation_of_two, moment_of_one, moment_of_two, situation_of_one,
                                  situation_of_two)


class Pairing:
    """A RULE and another one for as many voices, one or two; with FACES if two."""

    def __init__(self, rule, other, faces):
        self.looker = Looker(rule)
        self.other = Looker(other)
        self.faces = faces
        # For each PLACE that can come the PLACE ahead and what was done there.
        self.ways = {}

    def first(self):
        """The first PLACE."""
        return (0, 0, FIRST_OF_ONE if self.faces is None else FIRST_OF_TWO)

    def is_place(self, thing):
        """Whether a value is a PLACE."""
        if not is_row(thing, 3, 3) or not is_from_to(thing[0], 0, len(self.other.states) - 1):
            return False
        if not is_from_to(thing[1], 0, len(self.looker.states) - 1):
            return False
        return is_situation_of_one(thing[2]) if self.faces is None else is_situation_of_two(thing[2], self.faces)

    def deeds(self, situation):
        """All that the voices can do, with the MOMENT and the SITUATION that come."""
        if self.faces is None:
            return [(deed, moment_of_one(situation, deed), situation_of_one(situation, deed))
                    for deed in deeds_of_one(situation)]
        return [(deed, moment_of_two(deed[0], deed[1], deed[2]), situation_of_two(deed[0], deed[1], deed[2]))
                for deed in deeds_of_two(situation, self.faces)]

    def steps(self, place):
        """What can be done that is no fault of the other RULE, with the PLACE behind; None of a fault of the RULE."""
        found = []
        for deed, moment, situation in self.deeds(place[2]):
            behind, is_other_fault = self.other.change(moment)[place[0]]
            if not is_other_fault:
                state, is_fault = self.looker.change(moment)[place[1]]
                found.append((deed, None if is_fault else (behind, state, situation)))
        return found

    def counter(self):
        """SOUNDS by which the other RULE is kept, and the RULE is not; None if there are none."""
        self.ways = {self.first(): None}
        waiting = [self.first()]
        while waiting:
            following = []
            for place in waiting:
                for deed, behind in self.steps(place):
                    if behind is None:
                        return self.sounds_to(place, deed)
                    if behind not in self.ways:
                        self.ways[behind] = (place, deed)
                        following.append(behind)
            waiting = following
        return None

    def table(self):
        """All PLACES that can come, ascending; they have been looked for."""
        return tuple(sorted(list(self.ways)))

    def sounds_to(self, place, deed):
        """The SOUNDS by which a PLACE comes and then something is done."""
        deeds = [deed]
        while self.ways[place] is not None:
            place, deed = self.ways[place]
            deeds.append(deed)
        return sounds_of_one(deeds[::-1]) if self.faces is None else sounds_of_two(deeds[::-1])


def sounds_of_one(deeds):
    """The SOUNDS of what one voice does."""
    line = []
    for word, pitch in deeds:
        put_tick(line, word, pitch)
    return (tuple(line),)


def sounds_of_two(deeds):
    """The SOUNDS of what two voices do, with PITCHES that have the FACES as their differences."""
    lines, pitches = [[], []], [0, 0]
    for one, other, face in deeds:
        pitches = pitches_for(pitches, one, other, 0 if face is None else face)
        put_tick(lines[0], one, pitches[0])
        put_tick(lines[1], other, pitches[1])
    return (tuple(lines[0]), tuple(lines[1]))


def pitches_for(pitches, one, other, difference):
    """The PITCHES that two voices have, or had last, behind what they do, the difference being told."""
    if other == "begin":
        return [pitches[0], pitches[0] - difference]
    if one == "begin":
        return [pitches[1] + difference, pitches[1]]
    return pitches

"""A score looked through by a rule, sign by sign."""

from tacthouse.hearing import Hearing
from tacthouse.moments import Looker, change_behind, change_times, no_change, segments_of, state_times, times_ahead


class Look:
    """What each VARIED SIGN of a SCORE does, by each ear that comes, to the STATES of a RULE."""

    def __init__(self, score, rule):
        self.hearing = Hearing(score)
        self.looker = Looker(rule)
        self.changes = {}
        for level in self.hearing.levels:
            for heard in level:
                self.changes[heard] = self.built(heard)

    def built(self, heard):
        """The CHANGE by a pair (VARIED SIGN, ear) whose parts are there."""
        if self.hearing.is_block(heard[0]):
            return self.block_change(heard)
        made = no_change(len(self.looker.states))
        for part, many in self.hearing.parts(heard):
            made = change_behind(made, change_times(self.changes[part], many))
        return made

    def block_change(self, heard):
        """The CHANGE by a block with any ear."""
        return self.looker.change_over(self.hearing.lines(heard[0]), heard[1])

    def whole(self):
        """(the STATE behind the SCORE, how many faults)."""
        return self.changes[self.hearing.start][0]

    def segments(self, heard):
        """What a block tells by an ear, as pairs (CHANGE by one tick, so many ticks)."""
        rows = segments_of(self.hearing.lines(heard[0]), heard[1])
        return [(self.looker.change(moment), ticks) for moment, ticks in rows]

    def ahead_of(self, tick):
        """(the STATE, how many faults) ahead of a tick, from 0 to the LENGTH."""
        heard, left, state, faults = self.hearing.start, tick, 0, 0
        while not self.hearing.is_block(heard[0]):
            for part, many in self.hearing.parts(heard):
                heard, span = part, self.hearing.span(part[0])
                copies = min(many, left // span)
                left -= copies * span
                state, more = state_times(self.changes[part], state, copies)
                faults += more
                if copies < many:
                    break
        for change, ticks in self.segments(heard):
            state, more = state_times(change, state, min(left, ticks))
            faults += more
            left -= min(left, ticks)
        return state, faults

    def fault(self, number):
        """The tick that is the fault with this number, of those that there are."""
        heard, tick, state, left = self.hearing.start, 0, 0, number
        while not self.hearing.is_block(heard[0]):
            for part, many in self.hearing.parts(heard):
                heard = part
                copies = times_ahead(self.changes[part], state, many, left)
                state, less = state_times(self.changes[part], state, copies)
                left -= less
                tick += copies * self.hearing.span(part[0])
                if copies < many:
                    break
        for change, ticks in self.segments(heard):
            copies = times_ahead(change, state, ticks, left)
            state, less = state_times(change, state, copies)
            left -= less
            tick += copies
            if copies < ticks:
                break
        return tick

    def is_fault(self, tick):
        """Whether a tick of the SCORE is a fault."""
        return self.ahead_of(tick + 1)[1] > self.ahead_of(tick)[1]

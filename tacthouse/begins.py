"""Marks that stand at begins alone: how many have to be, and why there are none, without unfolding.

Whether a voice sounds higher or turned does not matter here, so VARIED SIGNS are spoken of as (NUMBER, BACK, SLOW).
"""

from tacthouse.signs import lengths_of
from tacthouse.varied import block_events, parts_of


class Begins:
    """The ticks at which an EVENT with a PITCH begins in some VOICE of a lot; MARKS reach over a SPAN of ticks."""

    def __init__(self, score, voices, span):
        self.signs = score
        self.voices = voices
        self.span = span
        self.lengths = lengths_of(score)
        self.rows = {}
        self.stretches = {}
        self.walks = {}

    def top(self):
        """The SCORE as it is."""
        return (len(self.signs) - 1, False, 1)

    def is_block(self, key):
        """Whether a varied sign is a block."""
        return self.signs[key[0]][0] == "block"

    def length(self, key):
        """How many ticks a varied sign lasts."""
        return self.lengths[key[0]] * key[2]

    def parts(self, key):
        """The parts of a varied sign, in turn, each with how often."""
        number, is_back, slow = key
        parts = parts_of(self.signs, (number, 0, False, is_back, slow))
        return [((part[0], part[3], part[4]), many) for part, many in parts]

    def block_ticks(self, key):
        """The ticks of a block at which something begins, ascending."""
        if key not in self.rows:
            number, is_back, slow = key
            found = set()
            for voice in self.voices:
                tick = 0
                for pitch, long in block_events(self.signs, (number, 0, False, is_back, slow), voice):
                    if pitch is not None:
                        found.add(tick)
                    tick += long
            self.rows[key] = sorted(found)
        return self.rows[key]

    def bar(self):
        """The BAR, or None."""
        length = self.length(self.top())
        _, _, last, bar = self.joined((0, 0, 0, None), self.stretch(self.top()))
        if bar is None and length - last > self.span:
            return (last, length)
        return bar

    def stretch(self, key):
        """(how long, first begin, last begin, first two begins too far apart) of a varied sign, each perhaps None."""
        if key not in self.stretches:
            if self.is_block(key):
                made = (0, None, None, None)
                for tick in self.block_ticks(key):
                    made = self.joined(made, (0, tick, tick, None))
                made = (self.length(key),) + made[1:]
            else:
                made = (0, None, None, None)
                for part, many in self.parts(key):
                    made = self.joined(made, self.repeated(self.stretch(part), many))
            self.stretches[key] = made
        return self.stretches[key]

    def joined(self, one, other):
        """Two stretches, one behind the other."""
        length, first, last, bar = one
        more, other_first, other_last, other_bar = other
        if other_first is None:
            return (length + more, first, last, bar)
        if first is None:
            first = length + other_first
        elif bar is None and length + other_first - last > self.span + 1:
            bar = (last, length + other_first)
        if bar is None and other_bar is not None:
            bar = (length + other_bar[0], length + other_bar[1])
        return (length + more, first, length + other_last, bar)

    def repeated(self, one, many):
        """A stretch so many times, one behind the other."""
        length, first, last, _ = one
        if many == 1 or first is None:
            return (length * many,) + one[1:]
        bar = self.joined(one, one)[3]
        return (length * many, first, length * (many - 1) + last, bar)

    def least_marks(self):
        """How many MARKS have to be at least, there being no BAR: each one stands as late as can be."""
        (mark, _), many = self.walk(self.top(), (0, 0))
        return many + (1 if mark > self.span else 0)

    def walk(self, key, place):
        """What becomes of a place over a varied sign, and how many MARKS are made.

        A place tells how many ticks ago the last MARK was, and the last begin that could be the next one.
        """
        if (key, place) not in self.walks:
            if self.is_block(key):
                self.walks[(key, place)] = self.walk_block(key, place)
            else:
                at, total = place, 0
                for part, many in self.parts(key):
                    at, made = self.walk_times(part, at, many)
                    total += made
                self.walks[(key, place)] = (at, total)
        return self.walks[(key, place)]

    def walk_block(self, key, place):
        """The same over a block."""
        mark, begin, made = -place[0], -place[1], 0
        for tick in self.block_ticks(key):
            if tick - mark > self.span + 1:
                mark = begin
                made += 1
            begin = tick
        length = self.length(key)
        return (length - mark, length - begin), made

    def walk_times(self, key, place, many):
        """The same over a varied sign so many times."""
        total, done, seen = 0, 0, {}
        while done < many:
            if place in seen:
                # From here on everything comes again, round by round.
                before, had = seen[place]
                laps = (many - done) // (done - before)
                total += laps * (total - had)
                done += laps * (done - before)
                seen = {}
            else:
                seen[place] = (done, total)
            if done < many:
                place, made = self.walk(key, place)
                total += made
                done += 1
        return place, total

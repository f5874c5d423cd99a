"""How far the notes of a voice are apart, in ticks, over any stretch of them, without unfolding."""

from tacthouse.varied import asked_of, block_events, parts_of, rising


class Stretch:
    """Some ticks with some notes: how many of each, the ticks of the first note and the last one.

    Of the ticks from note to next note the least and the greatest, each with the number of the first note that has it.
    """

    def __init__(self, span, count, first, last):
        self.span = span
        self.count = count
        self.first = first
        self.last = last
        self.least = None
        self.most = None

    def take(self, gap, number):
        """Counts a further gap, behind those with lesser numbers."""
        if self.least is None or gap < self.least[0]:
            self.least = (gap, number)
        if self.most is None or gap > self.most[0]:
            self.most = (gap, number)

    def take_all(self, other, ahead):
        """Counts the gaps of another stretch, so many notes being ahead of it."""
        for extreme in (other.least, other.most):
            if extreme is not None:
                self.take(extreme[0], extreme[1] + ahead)


def joined(one, other):
    """Two stretches, one behind the other."""
    span, count = one.span + other.span, one.count + other.count
    if not one.count:
        made = Stretch(span, count, one.span + other.first, one.span + other.last)
    elif not other.count:
        made = Stretch(span, count, one.first, one.last)
    else:
        made = Stretch(span, count, one.first, one.span + other.last)
    made.take_all(one, 0)
    if one.count and other.count:
        made.take(one.span + other.first - one.last, one.count - 1)
    made.take_all(other, one.count)
    return made


def repeated(one, many):
    """A stretch so many times, perhaps none, one behind the other."""
    if not one.count or not many:
        return Stretch(one.span * many, 0, 0, 0)
    made = Stretch(one.span * many, one.count * many, one.first, one.span * (many - 1) + one.last)
    made.take_all(one, 0)
    if many > 1:
        made.take(one.span + one.first - one.last, one.count - 1)
    return made


class Notes:
    """The stretches of all VARIED SIGNS that a SCORE asks for, in a VOICE."""

    def __init__(self, score, voice):
        self.signs = score
        self.voice = voice
        self.wholes = {}
        for varied in rising(asked_of(score)):
            self.wholes[varied] = self.built(varied)

    def built(self, varied):
        """The stretch of a VARIED SIGN whose parts are there."""
        if self.signs[varied[0]][0] == "block":
            return self.block_part(varied, 0, len(block_events(self.signs, varied, self.voice)))
        made = Stretch(0, 0, 0, 0)
        for part, many in parts_of(self.signs, varied):
            made = joined(made, repeated(self.wholes[part], many))
        return made

    def block_part(self, varied, low, high):
        """The stretch of a block that has its notes from the number low to below high alone."""
        begin, begins = 0, []
        for pitch, long in block_events(self.signs, varied, self.voice):
            if pitch is not None:
                begins.append(begin)
            begin += long
        made = Stretch(begin, 0, 0, 0)
        for tick in begins[low:high]:
            if made.count:
                made.take(tick - made.last, made.count - 1)
            else:
                made.first = tick
            made.last = tick
            made.count += 1
        return made

    def part_of(self, varied, low, high):
        """The stretch of a VARIED SIGN that has its notes from the number low to below high alone."""
        whole = self.wholes[varied]
        low, high = max(low, 0), min(high, whole.count)
        if low >= high:
            return Stretch(whole.span, 0, 0, 0)
        if high - low == whole.count:
            return whole
        if self.signs[varied[0]][0] == "block":
            return self.block_part(varied, low, high)
        made, ahead = Stretch(0, 0, 0, 0), 0
        for part, many in parts_of(self.signs, varied):
            made = joined(made, self.copies_part(part, many, low - ahead, high - ahead))
            ahead += self.wholes[part].count * many
        return made

    def copies_part(self, part, many, low, high):
        """The stretch of so many copies of a part that has their notes from low to below high alone."""
        whole = self.wholes[part]
        low, high = max(low, 0), min(high, whole.count * many)
        if low >= high:
            return Stretch(whole.span * many, 0, 0, 0)
        first, last = low // whole.count, (high - 1) // whole.count
        made = Stretch(whole.span * first, 0, 0, 0)
        made = joined(made, self.part_of(part, low - first * whole.count, high - first * whole.count))
        if last > first:
            made = joined(made, repeated(whole, last - first - 1))
            made = joined(made, self.part_of(part, 0, high - last * whole.count))
        return joined(made, Stretch(whole.span * (many - last - 1), 0, 0, 0))

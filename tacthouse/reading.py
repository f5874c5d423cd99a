"""One voice of a score, found from above without unfolding it."""

from tacthouse.signs import event_counts, lengths_of
from tacthouse.varied import block_events, parts_of, top_of


class Reading:
    """What a SCORE reads as in a VOICE; NOTES are its EVENTS with a PITCH, numbered from 0."""

    def __init__(self, score, voice):
        self.signs = score
        self.voice = voice
        self.spans = lengths_of(score)
        self.counts = event_counts(score, voice, True)

    def whole_span(self):
        """The LENGTH of the SCORE."""
        return self.spans[-1]

    def note_total(self):
        """How many NOTES there are."""
        return self.counts[-1]

    def at_tick(self, tick):
        """(how many NOTES begin ahead of it, PITCH, begin, LONG) of the EVENT that lasts at a tick."""
        varied, ahead, begin = top_of(self.signs), 0, 0
        while self.signs[varied[0]][0] != "block":
            for part, many in parts_of(self.signs, varied):
                varied, span = part, self.spans[part[0]] * part[4]
                copies = min(many, (tick - begin) // span)
                begin += copies * span
                ahead += copies * self.counts[part[0]]
                if copies < many:
                    break
        for pitch, long in block_events(self.signs, varied, self.voice):
            if begin + long > tick:
                break
            begin += long
            ahead += 0 if pitch is None else 1
        return ahead, pitch, begin, long

    def note(self, number):
        """(PITCH, begin, LONG) of the NOTE with this number."""
        varied, ahead, begin = top_of(self.signs), 0, 0
        while self.signs[varied[0]][0] != "block":
            for part, many in parts_of(self.signs, varied):
                varied, count = part, self.counts[part[0]]
                copies = min(many, (number - ahead) // count) if count else many
                begin += copies * self.spans[part[0]] * part[4]
                ahead += copies * count
                if copies < many:
                    break
        for pitch, long in block_events(self.signs, varied, self.voice):
            if pitch is not None and ahead == number:
                break
            begin += long
            ahead += 0 if pitch is None else 1
        return pitch, begin, long

    def notes_ahead(self, tick):
        """How many NOTES begin ahead of a tick, from 0 to the LENGTH or beyond."""
        if tick >= self.whole_span():
            return self.note_total()
        ahead, pitch, begin, _ = self.at_tick(tick)
        return ahead + (1 if pitch is not None and begin < tick else 0)

    def letter_at(self, tick):
        """(PITCH, begin, end) of the letter of the WORD that lasts at a tick."""
        ahead, pitch, begin, long = self.at_tick(tick)
        if pitch is not None:
            return pitch, begin, begin + long
        begin, end = 0, self.whole_span()
        if ahead > 0:
            _, start, long = self.note(ahead - 1)
            begin = start + long
        if ahead < self.note_total():
            end = self.note(ahead)[1]
        return None, begin, end

"""Which varied signs come by which ears in a score: what a rule has to know of what was heard ahead."""

from tacthouse.errors import TooMany
from tacthouse.scores import voice_count
from tacthouse.signs import lengths_of
from tacthouse.varied import asked_of, block_events, parts_of, rising, top_of

MOST_HEARD = 2000


def ear_behind(ear, lasts):
    """The ear behind what has these last PITCHES, None for a VOICE that has none."""
    return tuple([before if last is None else last for before, last in zip(ear, lasts)])


class Hearing:
    """All pairs (VARIED SIGN, ear) that come in a SCORE."""

    def __init__(self, score):
        self.signs = score
        self.voices = voice_count(score)
        self.lengths = lengths_of(score)
        self.asked = asked_of(score)
        self.lasts = {}
        for varied in rising(self.asked):
            self.lasts[varied] = self.last_pitches(varied)
        self.start = (top_of(score), (None,) * self.voices)
        # For each SIGN the pairs that have its number; those of which one is put together stand at lesser numbers.
        self.levels = [{} for _ in score]
        self.levels[-1][self.start] = True
        self.put_all()

    def lines(self, varied):
        """The EVENTS of each VOICE of a VARIED SIGN whose SIGN is a block."""
        return [block_events(self.signs, varied, voice) for voice in range(self.voices)]

    def is_block(self, varied):
        """Whether a VARIED SIGN is that of a block."""
        return self.signs[varied[0]][0] == "block"

    def span(self, varied):
        """The LENGTH of what a VARIED SIGN reads as."""
        return self.lengths[varied[0]] * varied[4]

    def last_pitches(self, varied):
        """For each VOICE the PITCH of the last EVENT with a PITCH, or None; the parts are there."""
        lasts = (None,) * self.voices
        if self.is_block(varied):
            rows = [[pitch for pitch, _ in line if pitch is not None] for line in self.lines(varied)]
            return tuple([row[-1] if row else None for row in rows])
        for part, _ in parts_of(self.signs, varied):
            lasts = ear_behind(lasts, self.lasts[part])
        return lasts

    def parts(self, heard):
        """The pairs of which a pair (VARIED SIGN, ear) is put together, in turn, each with how often."""
        varied, ear = heard
        found = []
        for part, many in parts_of(self.signs, varied):
            found.append(((part, ear), 1))
            ear = ear_behind(ear, self.lasts[part])
            if many > 1:
                found.append(((part, ear), many - 1))
        return found

    def put_all(self):
        """Puts all pairs there that come, unless there are too many."""
        count = 1
        for number in reversed(range(len(self.signs))):
            for heard in list(self.levels[number]):
                for part, _ in self.parts(heard):
                    below = self.levels[part[0][0]]
                    if part not in below:
                        below[part] = True
                        count += 1
                if count > MOST_HEARD:
                    raise TooMany(MOST_HEARD)

"""The words of a voice of scores, kept short by the varied signs that the scores ask for.

What a varied sign reads is kept as three things: how many ticks of rest are ahead, a row of at most one symbol, and
how many ticks of rest are behind. So rests side by side are always found together, wherever signs are joined.
"""

from tacthouse.fold import Fold, push_all
from tacthouse.varied import asked_of, block_events, parts_of, rising, top_of


class Wording:
    """Words that are being put together; first letters have provisional numbers."""

    def __init__(self):
        self.fold = Fold()
        self.numbers = {}
        self.known = {}

    def letter(self, pitch, long):
        """The provisional number of a first letter."""
        return self.numbers.setdefault((pitch, long), len(self.numbers))

    def rest_row(self, ticks):
        """The row of a rest, none of no ticks."""
        return [(self.letter(None, ticks), 1)] if ticks else []

    def named(self, row, turns):
        """A row of a single name that reads as a row does."""
        if len(row) == 1 and row[0][0] < 0:
            return row
        key = (tuple(row), turns)
        if key not in self.known:
            self.known[key] = self.fold.put_row(row, turns)
        return [(self.known[key], 1)]

    def joined(self, pieces):
        """What pieces, one behind the other, read as."""
        first, row, ticks = 0, [], 0
        for ahead, core, behind in pieces:
            ticks += ahead
            if core:
                if row:
                    push_all(row, self.rest_row(ticks))
                else:
                    first = ticks
                push_all(row, core)
                ticks = behind
        if not row:
            return ticks, [], 0
        return first, self.named(row, 1), ticks

    def repeated(self, piece, many):
        """What a piece reads as, many times over."""
        ahead, core, behind = piece
        if not core:
            return ahead * many, [], 0
        if many == 1:
            return piece
        return ahead, self.named(core + self.rest_row(ahead + behind) + core, many - 1), behind

    def block_piece(self, events):
        """What the EVENTS of a block read as."""
        pieces = []
        for pitch, long in events:
            pieces.append((long, [], 0) if pitch is None else (0, [(self.letter(pitch, long), 1)], 0))
        return self.joined(pieces)

    def put_word(self, score, voice):
        """Puts the WORD of a VOICE of a SCORE there, as a top of its own."""
        pieces = {}
        for varied in rising(asked_of(score)):
            if score[varied[0]][0] == "block":
                pieces[varied] = self.block_piece(block_events(score, varied, voice))
            else:
                parts = parts_of(score, varied)
                pieces[varied] = self.joined([self.repeated(pieces[part], many) for part, many in parts])
        ahead, core, behind = pieces[top_of(score)]
        self.fold.tops.append(self.fold.put_row(self.rest_row(ahead) + core + self.rest_row(behind), 1))

    def number_letters(self):
        """Gives the first letters their numbers: rests first, by their LONG, then the others as pairs are ordered."""
        fold = self.fold
        rests = sorted([meaning for meaning in self.numbers if meaning[0] is None], key=lambda pair: pair[1])
        others = sorted([meaning for meaning in self.numbers if meaning[0] is not None])
        final = {}
        for meaning in rests + others:
            final[self.numbers[meaning]] = fold.put_letter(meaning, meaning[1])
        fold.firsts = len(final)
        for symbol in fold.order:
            fold.rows[symbol] = [(final.get(part, part), many) for part, many in fold.rows[symbol]]


def fold_of(scores, voice):
    """A Fold of the WORDS of a VOICE of two SCORES."""
    wording = Wording()
    for score in scores:
        wording.put_word(score, voice)
    wording.number_letters()
    wording.fold.settle()
    return wording.fold

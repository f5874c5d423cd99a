"""Ostinatos: a row again and again beside a voice, and by which shifts they do not clash."""

from math import gcd

from tacthouse.boards import span_by, true_boards
from tacthouse.errors import BadNumber, BadRow
from tacthouse.kinds import is_from_to
from tacthouse.scores import need_both
from tacthouse.signs import is_event_row, row_length
from tacthouse.song import need_good, unit_by


class Beside:
    """An OSTINATO beside a voice of a SCORE."""

    def __init__(self, score, voice, ostinato):
        self.unit = unit_by(score, voice, row_length(ostinato))
        for _, long in ostinato:
            self.unit = gcd(self.unit, long)
        self.span = span_by(self.unit, row_length(ostinato))
        self.board = true_boards(score, voice, self.unit, self.span).top_board()
        self.pitches = []
        for pitch, long in ostinato:
            self.pitches.extend([pitch] * (long // self.unit))

    def first_clash(self, good, shift):
        """The first tick at which they clash by a SHIFT, or None."""
        found = []
        for rest, places in enumerate(self.board):
            own = self.pitches[(rest - shift) % self.span]
            if own is not None:
                found.extend([first for pitch, (first, _) in places.items() if (own - pitch) % 12 not in good])
        return min(found) * self.unit if found else None


def need_beside(score, voice, ostinato, good):
    """Refuses what is no SCORE, no VOICE of it, no ROW, no GOOD; the OSTINATO beside the voice."""
    need_both(score, voice)
    if not is_event_row(ostinato):
        raise BadRow(ostinato)
    need_good(good)
    return Beside(score, voice, ostinato)


def clean_shifts(score, voice, ostinato, good):
    """All SHIFTS by which they clash at no tick, ascending."""
    beside = need_beside(score, voice, ostinato, good)
    return tuple([shift for shift in range(beside.span) if beside.first_clash(good, shift) is None])


def ostinato_clash(score, voice, ostinato, good, shift):
    """The first tick at which they clash by a SHIFT, or None."""
    beside = need_beside(score, voice, ostinato, good)
    if not is_from_to(shift, 0, beside.span - 1):
        raise BadNumber(shift)
    return beside.first_clash(good, shift)

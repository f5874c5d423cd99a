"""A voice of a score laid on a ring."""

from math import gcd

from tacthouse.errors import BadNumber
from tacthouse.kinds import is_from_to
from tacthouse.rings import MOST_BEATS
from tacthouse.scores import need_both
from tacthouse.signs import lengths_of
from tacthouse.varied import asked_of, block_events, parts_of, rising, top_of


def laid(score, voice, beats):
    """For each beat how many EVENTS with a PITCH begin at a tick with this rest."""
    need_both(score, voice)
    if not is_from_to(beats, 1, MOST_BEATS):
        raise BadNumber(beats)
    lengths, rows = lengths_of(score), {}
    for varied in rising(asked_of(score)):
        row, begin = [0] * beats, 0
        if score[varied[0]][0] == "block":
            row = block_row(block_events(score, varied, voice), beats)
        for part, many in parts_of(score, varied):
            span = lengths[part[0]] * part[4]
            put_copies(row, rows[part], begin, span, many)
            begin += span * many
        rows[varied] = row
    return tuple(rows[top_of(score)])


def block_row(events, beats):
    """For each beat how many of some EVENTS with a PITCH begin with this rest."""
    row, begin = [0] * beats, 0
    for pitch, long in events:
        if pitch is not None:
            row[begin % beats] += 1
        begin += long
    return row


def put_copies(row, part, begin, span, many):
    """Puts so many copies of a part, a span of ticks each, into a row, the first one from a tick on."""
    beats = len(row)
    # Behind so many copies they come to the same beats again.
    lap = beats // gcd(beats, span)
    for copy in range(min(lap, many)):
        often = (many - copy + lap - 1) // lap
        for beat, count in enumerate(part):
            row[(begin + copy * span + beat) % beats] += count * often


def strikes_once(score, voice, beats):
    """Whether on each beat just one EVENT with a PITCH begins."""
    return all([count == 1 for count in laid(score, voice, beats)])

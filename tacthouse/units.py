"""Rounds of voices by units: boards of what can sound at each rest, and how many singers there can be."""

from tacthouse.boards import as_told, span_by, true_boards
from tacthouse.errors import BadNumber
from tacthouse.scores import need_both
from tacthouse.song import is_delay, most_by, need_song, unit_by


def need_delay(score, voice, delay):
    """Refuses what is no SCORE, no voice of it, no DELAY."""
    need_both(score, voice)
    if not is_delay(delay):
        raise BadNumber(delay)


def unit_of(score, voice, delay):
    """The UNIT."""
    need_delay(score, voice, delay)
    return unit_by(score, voice, delay)


def board_of(score, voice, delay):
    """The BOARD of a voice for a DELAY."""
    need_delay(score, voice, delay)
    unit = unit_by(score, voice, delay)
    return as_told(true_boards(score, voice, unit, span_by(unit, delay)).top_board())


def most_singers(score, song):
    """The MOST of a ROUND, or None."""
    need_song(score, song)
    return most_by(score, song)

"""Playings without a slip: from which notes on a voice was played, and whether in time."""

from tacthouse.errors import BadFraction, BadGait, BadNumber, BadPaper, BadStart
from tacthouse.gaits import (StartJudge, are_near, bad_lot, is_bad_lot, is_gait, least_speed, shift_by, tightest_off)
from tacthouse.kinds import is_from_to, is_worded
from tacthouse.matches import need_playing
from tacthouse.quotients import is_above_nought, is_less
from tacthouse.reading import Reading
from tacthouse.scores import need_both
from tacthouse.windows import Windows


def starts_by(score, voice, playing, gait):
    """From each NOTE on whether it is a start, in time by a GAIT if there is one."""
    return Windows(score, voice, len(playing), StartJudge(playing, gait))


def need_played_voice(score, voice, playing):
    """Refuses what is no SCORE, no VOICE of it, no PLAYING."""
    need_both(score, voice)
    need_playing(playing)


def need_gait(gait):
    """Refuses any value that is no GAIT."""
    if not is_gait(gait):
        raise BadGait(gait)


def strokes_from(score, voice, playing, note):
    """The STROKES of a start; refuses what is no SCORE, no VOICE of it, no PLAYING, no start of it."""
    need_played_voice(score, voice, playing)
    reading = Reading(score, voice)
    if not is_from_to(note, 0, reading.note_total() - len(playing)):
        raise BadStart(note)
    notes = [reading.note(note + at) for at in range(len(playing))]
    if any([pitch != heard for (pitch, _), (heard, _, _) in zip(playing, notes)]):
        raise BadStart(note)
    return [(time, begin) for (_, time), (_, begin, _) in zip(playing, notes)]


def many_starts(score, voice, playing):
    """How many starts there are."""
    need_played_voice(score, voice, playing)
    return starts_by(score, voice, playing, None).tally().get(True, 0)


def start_at(score, voice, playing, number):
    """The start with this number."""
    need_played_voice(score, voice, playing)
    starts = starts_by(score, voice, playing, None)
    if not is_from_to(number, 0, starts.tally().get(True, 0) - 1):
        raise BadNumber(number)
    return starts.note_told(True, number)


def is_in_time(score, voice, playing, note, gait):
    """Whether a start is in time."""
    strokes = strokes_from(score, voice, playing, note)
    need_gait(gait)
    return least_speed(strokes, gait) is not None


def time_paper(score, voice, playing, note, gait):
    """A PAPER on whether a start is in time."""
    strokes = strokes_from(score, voice, playing, note)
    need_gait(gait)
    speed = least_speed(strokes, gait)
    if speed is None:
        return ("off", bad_lot(strokes, gait))
    return ("in", speed, shift_by(strokes, speed, gait[2]))


def check_time(score, voice, playing, note, gait, paper):
    """The word of a PAPER that holds."""
    strokes = strokes_from(score, voice, playing, note)
    need_gait(gait)
    if is_worded(paper, "in", 3):
        if not are_near(strokes, gait, paper[1], paper[2]):
            raise BadPaper("in")
        return "in"
    if not is_worded(paper, "off", 2):
        raise BadPaper("form")
    if not is_bad_lot(strokes, gait, paper[1]):
        raise BadPaper("off")
    return "off"


def tightest(score, voice, playing, note, low, high):
    """TIGHTEST of a start."""
    strokes = strokes_from(score, voice, playing, note)
    if not is_above_nought(low):
        raise BadFraction(low)
    if not is_above_nought(high) or is_less(high, low):
        raise BadFraction(high)
    return tightest_off(strokes, low, high)


def in_time(score, voice, playing, gait):
    """How many starts are in time."""
    need_played_voice(score, voice, playing)
    need_gait(gait)
    return starts_by(score, voice, playing, gait).tally().get(True, 0)


def first_in_time(score, voice, playing, gait):
    """The first start that is in time, or None."""
    need_played_voice(score, voice, playing)
    need_gait(gait)
    starts = starts_by(score, voice, playing, gait)
    return starts.note_told(True, 0) if starts.tally().get(True, 0) else None

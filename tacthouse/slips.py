"""Playings with slips: how few a playing of a voice has, and from which places on."""

from tacthouse.errors import BadNumber, BadPaper
from tacthouse.kinds import is_from_to
from tacthouse.matches import Matching, SlipJudge, most_notes, need_playing, pitches_of, slips_by
from tacthouse.reading import Reading
from tacthouse.scores import need_both
from tacthouse.windows import Windows


def need_slips(score, voice, playing):
    """Refuses what is no SCORE, no VOICE of it, no PLAYING."""
    need_both(score, voice)
    need_playing(playing)


def windows_by(score, voice, playing):
    """How few SLIPS there are from each NOTE on."""
    need_slips(score, voice, playing)
    return Windows(score, voice, most_notes(playing), SlipJudge(playing))


def matching_from(reading, playing, note):
    """The MATCHES from a NOTE on."""
    end = min(note + most_notes(playing), reading.note_total())
    return Matching(pitches_of(playing), [reading.note(at)[0] for at in range(note, end)])


def need_note_of(reading, note):
    """Refuses any value that is no number of a NOTE."""
    if not is_from_to(note, 0, reading.note_total() - 1):
        raise BadNumber(note)


def least_slips(score, voice, playing):
    """LEAST SLIPS, None of a VOICE without NOTES."""
    return min(list(windows_by(score, voice, playing).tally()), default=None)


def best_match(score, voice, playing):
    """The first of PLACES, and a MATCH from it with LEAST SLIPS; None of a VOICE without NOTES."""
    windows = windows_by(score, voice, playing)
    counts = windows.tally()
    if not counts:
        return None
    note = windows.note_told(min(list(counts)), 0)
    return (note, matching_from(Reading(score, voice), playing, note).match())


def slip_places(score, voice, playing):
    """How many PLACES there are."""
    counts = windows_by(score, voice, playing).tally()
    return counts[min(list(counts))] if counts else 0


def slip_place_at(score, voice, playing, number):
    """The one of PLACES with this number."""
    windows = windows_by(score, voice, playing)
    counts = windows.tally()
    least = min(list(counts), default=None)
    if not is_from_to(number, 0, counts.get(least, 0) - 1):
        raise BadNumber(number)
    return windows.note_told(least, number)


def slips_from(score, voice, playing, note):
    """As few SLIPS as a MATCH from a NOTE on has."""
    need_slips(score, voice, playing)
    reading = Reading(score, voice)
    need_note_of(reading, note)
    return matching_from(reading, playing, note).best()[0]


def check_match(score, voice, playing, note, thing):
    """The SLIPS of a MATCH from a NOTE on."""
    need_slips(score, voice, playing)
    reading = Reading(score, voice)
    need_note_of(reading, note)
    slips = slips_by(reading, playing, note, thing)
    if slips is None:
        raise BadPaper("match")
    return slips

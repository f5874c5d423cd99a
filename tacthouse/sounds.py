"""What is heard of a score, at a tick and in all."""

from tacthouse.errors import BadNumber, BadTick
from tacthouse.kinds import is_from_to
from tacthouse.reading import Reading
from tacthouse.scores import need_both, need_score, voice_count
from tacthouse.signs import lengths_of
from tacthouse.varied import asked_of, block_events


def need_tick(score, tick):
    """Refuses any value that is no tick of a SCORE."""
    if not is_from_to(tick, 0, lengths_of(score)[-1] - 1):
        raise BadTick(tick)


def note_count(score, voice):
    """How many EVENTS with a PITCH a VOICE has."""
    need_both(score, voice)
    return Reading(score, voice).note_total()


def begin_of(score, voice, number):
    """The tick at which the EVENT with a PITCH of this number begins."""
    need_both(score, voice)
    reading = Reading(score, voice)
    if not is_from_to(number, 0, reading.note_total() - 1):
        raise BadNumber(number)
    return reading.note(number)[1]


def next_begin(score, voice, tick):
    """The least tick, from this one on, at which an EVENT with a PITCH begins, or None."""
    need_both(score, voice)
    need_tick(score, tick)
    reading = Reading(score, voice)
    ahead = reading.notes_ahead(tick)
    return reading.note(ahead)[1] if ahead < reading.note_total() else None


def sound_at(score, voice, tick):
    """The SOUND of a VOICE at a tick."""
    need_both(score, voice)
    need_tick(score, tick)
    return sound_there(score, voice, tick)


def sound_there(score, voice, tick):
    """The SOUND of a VOICE at a tick, both being there."""
    _, pitch, begin, _ = Reading(score, voice).at_tick(tick)
    return pitch, pitch is not None and begin == tick


def heard_all(score, tick):
    """For each VOICE (PITCH, AGO, STILL) of the letter that lasts at a tick."""
    need_score(score)
    need_tick(score, tick)
    heard = []
    for voice in range(voice_count(score)):
        pitch, begin, end = Reading(score, voice).letter_at(tick)
        heard.append((pitch, tick - begin, end - tick))
    return tuple(heard)


def sounding(score, voice):
    """Each PITCH that sounds, ascending, with at how many ticks."""
    need_both(score, voice)
    ticks = {}
    asked = asked_of(score)
    for varied in asked:
        if score[varied[0]][0] == "block":
            for pitch, long in block_events(score, varied, voice):
                if pitch is not None:
                    ticks[pitch] = ticks.get(pitch, 0) + long * asked[varied]
    return tuple([(pitch, ticks[pitch]) for pitch in sorted(list(ticks))])

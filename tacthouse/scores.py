"""Scores: which values are such, how long their signs are, what they ask for and read as."""

from tacthouse.errors import BadVoice, TooMany
from tacthouse.kinds import is_from_to
from tacthouse.signs import MOST_SIGNS, check_signs, event_counts, first_bad, lengths_of
from tacthouse.varied import MOST_ASKED, asked_of, block_events, parts_of, rising, top_of

MOST_UNFOLDED = 2000


def need_score(thing):
    """The value itself, if it is a SCORE."""
    check_signs(thing)
    if asked_of(thing) is None:
        raise TooMany(MOST_ASKED)
    return thing


def is_score(signs):
    """Whether a tuple of some things is a SCORE that asks for few enough VARIED SIGNS."""
    return len(signs) <= MOST_SIGNS and first_bad(signs) is None and asked_of(signs) is not None


def need_voice(score, voice):
    """Refuses any value that is no number of a VOICE of a SCORE."""
    if not is_from_to(voice, 0, voice_count(score) - 1):
        raise BadVoice(voice)


def need_both(score, voice):
    """Refuses what is no SCORE, then what is no VOICE of it."""
    need_score(score)
    need_voice(score, voice)


def voice_count(score):
    """How many VOICES a SCORE has."""
    # The first SIGN names no other one, so it is a block.
    return len(score[0][1])


def voices_of(score):
    """How many VOICES there are."""
    return voice_count(need_score(score))


def sign_lengths(score):
    """The LENGTHS of all SIGNS."""
    return tuple(lengths_of(need_score(score)))


def asked_signs(score):
    """All VARIED SIGNS that are asked for, ascending, each with how often it is used."""
    asked = asked_of(need_score(score))
    return tuple([(varied, asked[varied]) for varied in rising(asked)])


def need_short(score):
    """Refuses a SCORE that is not SHORT."""
    if sum([event_counts(score, voice, False)[-1] for voice in range(voice_count(score))]) > MOST_UNFOLDED:
        raise TooMany(MOST_UNFOLDED)


def unfolded(score):
    """The WORDS of all VOICES."""
    need_score(score)
    need_short(score)
    return tuple([tuple(with_rests_joined(events_read(score, voice))) for voice in range(voice_count(score))])


def events_read(score, voice):
    """The EVENTS that a SCORE reads as in a VOICE."""
    reads = {}
    for varied in rising(asked_of(score)):
        events = block_events(score, varied, voice) if score[varied[0]][0] == "block" else []
        for part, many in parts_of(score, varied):
            events = events + reads[part] * many
        reads[varied] = events
    return reads[top_of(score)]


def notes_read(score, voice):
    """The EVENTS with a PITCH that a SCORE reads as in a VOICE, as (PITCH, begin, end)."""
    notes, begin = [], 0
    for pitch, long in events_read(score, voice):
        if pitch is not None:
            notes.append((pitch, begin, begin + long))
        begin += long
    return notes


def with_rests_joined(events):
    """The same EVENTS, rests side by side being one."""
    word = []
    for pitch, long in events:
        if word and pitch is None and word[-1][0] is None:
            word[-1] = (None, word[-1][1] + long)
        else:
            word.append((pitch, long))
    return word

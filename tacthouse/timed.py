"""Scores by a tempo: when events begin, what is heard at a second, how far begins are apart; and scores by paces."""

from tacthouse.errors import BadFraction, BadNumber, BadPaces, OutOfScore
from tacthouse.gaps import Notes
from tacthouse.kinds import is_from_to
from tacthouse.paces import are_paces, begin_by_paces, lasting
from tacthouse.quotients import ceiling_of, floor_of, is_from_nought, is_less, minus, product_of, whole
from tacthouse.reading import Reading
from tacthouse.scores import need_both, need_score, voice_count
from tacthouse.signs import lengths_of
from tacthouse.tempos import bends_of, need_tempo, one_back, plainly, worth_at
from tacthouse.varied import top_of


def second_of(tempo, tick):
    """The SECOND of a tick."""
    return worth_at(tempo, whole(tick))


def need_note(score, voice, number):
    """Refuses what is no SCORE, no VOICE of it, no number of an EVENT with a PITCH; what it reads as."""
    need_both(score, voice)
    reading = Reading(score, voice)
    if not is_from_to(number, 0, reading.note_total() - 1):
        raise BadNumber(number)
    return reading


def begin_at(score, voice, number, tempo):
    """The SECOND at which the EVENT with a PITCH of this number begins."""
    reading = need_note(score, voice, number)
    need_tempo(tempo)
    return second_of(tempo, reading.note(number)[1])


def heard_at(score, second, tempo):
    """For each VOICE the PITCH that is heard at a SECOND, or None, and how many SECONDS ago and still."""
    need_score(score)
    if not is_from_nought(second):
        raise BadFraction(second)
    need_tempo(tempo)
    tick = floor_of(worth_at(one_back(tempo), second))
    if tick >= lengths_of(score)[-1]:
        raise OutOfScore(second)
    heard = []
    for voice in range(voice_count(score)):
        pitch, begin, end = Reading(score, voice).letter_at(tick)
        heard.append((pitch, minus(second, second_of(tempo, begin)), minus(second_of(tempo, end), second)))
    return tuple(heard)


def nearest_gap(score, voice, tempo):
    """The least GAP and the number of the first such one, or None."""
    best = None
    for least, _ in extreme_gaps(score, voice, tempo):
        if best is None or is_less(least[0], best[0]):
            best = least
    return best


def widest_gap(score, voice, tempo):
    """The greatest GAP and the number of the first such one, or None."""
    best = None
    for _, most in extreme_gaps(score, voice, tempo):
        if best is None or is_less(best[0], most[0]):
            best = most
    return best


def extreme_gaps(score, voice, tempo):
    """Pairs of two (GAP, number), for one stretch of ticks behind another the nearest GAP and the widest one.

    Such a stretch is one pair of the TEMPO, in which SECONDS go as ticks do; or one GAP that goes over a bend.
    """
    need_both(score, voice)
    need_tempo(tempo)
    reading, notes = Reading(score, voice), Notes(score, voice)
    total, low, found = reading.note_total(), 0, []
    pairs = plainly(tempo)
    for (_, rate), bend in zip(pairs, bends_of(pairs) + [None]):
        high = total if bend is None else reading.notes_ahead(floor_of(bend) + 1)
        stretch = notes.part_of(top_of(score), low, high)
        if stretch.least is not None:
            ends = (stretch.least, stretch.most)
            found.append(tuple([(product_of(rate, whole(gap)), low + number) for gap, number in ends]))
        if bend is not None:
            low = reading.notes_ahead(ceiling_of(bend))
            if 0 < low < total:
                gap = (gap_over(reading, tempo, low - 1), low - 1)
                found.append((gap, gap))
    return found


def gap_over(reading, tempo, number):
    """The GAP with this number."""
    one, other = reading.note(number)[1], reading.note(number + 1)[1]
    return minus(second_of(tempo, other), second_of(tempo, one))


def need_paces(score, paces):
    """Refuses any value that is no PACES of a SCORE."""
    if not are_paces(score, paces):
        raise BadPaces(paces)


def paced_length(score, paces):
    """What a SCORE lasts by PACES."""
    need_score(score)
    need_paces(score, paces)
    return lasting(score, paces)[-1]


def paced_begin(score, voice, number, paces):
    """The SECOND of a begin by PACES."""
    need_note(score, voice, number)
    need_paces(score, paces)
    return begin_by_paces(score, voice, number, paces)

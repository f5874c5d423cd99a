"""Rounds of voices: which values are such, and the units by which they are looked at."""

from math import gcd

from tacthouse.errors import BadGood, BadNumber, BadRound
from tacthouse.kinds import is_ascending_to, is_from_to, is_integer, is_row
from tacthouse.scores import need_score, voice_count
from tacthouse.signs import HIGHEST
from tacthouse.varied import asked_of, block_events

MOST_DELAY = 10 ** 40


def is_delay(thing):
    """Whether a value is a DELAY."""
    return is_from_to(thing, 1, MOST_DELAY)


def need_song(score, song):
    """Refuses what is no SCORE, then what is no ROUND of it."""
    need_score(score)
    if not is_row(song, 3, 3) or not is_from_to(song[0], 0, voice_count(score) - 1):
        raise BadRound(song)
    if not is_delay(song[1]) or not is_from_to(song[2], -24, 24):
        raise BadRound(song)


def need_good(good):
    """Refuses any value that is no GOOD."""
    if not is_ascending_to(good, 0, 11):
        raise BadGood(good)


def asked_events(score, voice):
    """All EVENTS of a voice in the ROWS that are asked for."""
    events = []
    for varied in asked_of(score):
        if score[varied[0]][0] == "block":
            events.extend(block_events(score, varied, voice))
    return events


def unit_by(score, voice, ticks):
    """The UNIT for a voice and a number of ticks."""
    unit = ticks
    for _, long in asked_events(score, voice):
        unit = gcd(unit, long)
    return unit


def most_by(score, song):
    """The MOST of a ROUND, or None."""
    voice, _, up = song
    pitches = [pitch for pitch, _ in asked_events(score, voice) if pitch is not None]
    if up == 0 or not pitches:
        return None
    if up > 0:
        return (HIGHEST - max(pitches)) // up
    return (HIGHEST + min(pitches)) // -up


def need_distance(score, song, number):
    """Refuses any value that is no DISTANCE of a ROUND."""
    if not is_integer(number) or number < 1:
        raise BadNumber(number)
    most = most_by(score, song)
    if most is not None and number > most:
        raise BadNumber(number)

"""Deeds of a desk: what each one makes of what is led, which ones cannot be done, and their texts.

What is LED is a triple (SCORE, TEMPO, PLAYING or None).
"""

from tacthouse.forms import Reader, pair_words, read_pair, read_sign, sign_words, stroke_word
from tacthouse.kinds import is_from_to
from tacthouse.matches import is_playing
from tacthouse.scores import is_score
from tacthouse.tempos import MOST_PAIRS, is_tempo, one_behind

SIZES = {"put": 2, "set": 3, "drop": 1, "tempo": 2, "behind": 2, "strike": 3, "hush": 1}


def is_deed(thing):
    """Whether a value has the form of a DEED."""
    if not isinstance(thing, tuple) or not thing or not isinstance(thing[0], str):
        return False
    return len(thing) == SIZES.get(thing[0], 0)


def led_behind(led, deed):
    """What is LED behind a DEED, and None; or None, and the place of what is wrong with it."""
    if not is_deed(deed):
        return None, "form"
    score, tempo, playing = led
    if deed[0] in ("put", "set", "drop"):
        signs = signs_behind(score, deed)
        if signs is None:
            return None, "number"
        return ((signs, tempo, playing), None) if is_score(signs) else (None, "score")
    if deed[0] in ("tempo", "behind"):
        made = tempo_led(tempo, deed)
        return (None, "tempo") if made is None else ((score, made, playing), None)
    if deed[0] == "strike":
        played = (playing or ()) + (deed[1:],)
        return ((score, tempo, played), None) if is_playing(played) else (None, "playing")
    return (None, "playing") if playing is None else ((score, tempo, None), None)


def signs_behind(score, deed):
    """The SIGNS behind a DEED, None if there is none with its number, or no second one to drop."""
    if deed[0] == "put":
        return score + (deed[1],)
    if deed[0] == "drop":
        return score[:-1] if len(score) > 1 else None
    if not is_from_to(deed[1], 0, len(score) - 1):
        return None
    return score[:deed[1]] + (deed[2],) + score[deed[1] + 1:]


def tempo_led(tempo, deed):
    """The TEMPO behind a DEED, None if there is none."""
    if not is_tempo(deed[1]):
        return None
    if deed[0] == "tempo":
        return deed[1]
    made = one_behind(tempo, deed[1])
    return made if len(made) <= MOST_PAIRS else None


def deed_words(deed):
    """The words of a DEED that was done."""
    if deed[0] == "put":
        return ["put"] + sign_words(deed[1])
    if deed[0] == "set":
        return ["set", str(deed[1])] + sign_words(deed[2])
    if deed[0] in ("tempo", "behind"):
        return [deed[0]] + [word for pair in deed[1] for word in pair_words(pair)]
    if deed[0] == "strike":
        return ["strike", stroke_word(deed[1:])]
    return [deed[0]]


def read_deeds(given):
    """The DEEDS that a text tells, in turn."""
    reader, deeds = Reader(given), []
    if given == "":
        return deeds
    while reader.has_row():
        deeds.append(read_deed(reader))
        reader.end_row()
    return deeds


def read_deed(reader):
    """The DEED that a line tells."""
    word = reader.take(tuple(list(SIZES)))
    if word == "put":
        return (word, read_sign(reader))
    if word == "set":
        number = reader.number()
        return (word, number, read_sign(reader))
    if word in ("tempo", "behind"):
        pairs = [read_pair(reader)]
        while reader.has_word():
            pairs.append(read_pair(reader))
        return (word, tuple(pairs))
    if word == "strike":
        return (word,) + reader.pair("@", None)
    return (word,)

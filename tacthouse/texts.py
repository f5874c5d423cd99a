"""Texts of scores, rhythms, tempos, rules, instruments and playings, there and back."""

from tacthouse.errors import BadRing
from tacthouse.forms import (Reader, pair_words, read_pair, read_sign, sign_words, stroke_word)
from tacthouse.hands import need_instrument
from tacthouse.matches import need_playing
from tacthouse.rings import is_rhythm
from tacthouse.rulings import need_rule
from tacthouse.scores import need_score
from tacthouse.tempos import need_tempo

# How many numbers stand behind each word of a TEST, at least behind "class".
NUMBERS = {"sounds": 1, "silent": 1, "begins": 1, "pitch": 3, "apart": 4, "class": 2, "step": 3}


def lines_of(rows):
    """The text of lines, each of words."""
    return "\n".join([" ".join(words) for words in rows])


def words_of(word, numbers):
    """A word and numbers behind it."""
    return [word] + [str(number) for number in numbers]


def score_text(score):
    """The text of a SCORE."""
    need_score(score)
    return lines_of([sign_words(sign) for sign in score])


def read_score(text):
    """The SCORE whose text it is."""
    reader = Reader(text)
    signs = []
    while reader.has_row():
        signs.append(read_sign(reader))
        reader.end_row()
    return need_score(tuple(signs))


def need_rhythm(rhythm):
    """The value itself, if it is a RHYTHM."""
    if not is_rhythm(rhythm):
        raise BadRing(rhythm)
    return rhythm


def rhythm_text(rhythm):
    """The text of a RHYTHM."""
    beats, strokes = need_rhythm(rhythm)
    return "".join(["x" if beat in strokes else "." for beat in range(beats)])


def read_rhythm(text):
    """The RHYTHM whose text it is."""
    reader = Reader(text)
    word = reader.peek()
    if not word or not all([sign in ("x", ".") for sign in word]):
        reader.refuse()
    reader.take((word,))
    reader.end_row()
    reader.end()
    return need_rhythm((len(word), tuple([beat for beat, sign in enumerate(word) if sign == "x"])))


def tempo_text(tempo):
    """The text of a TEMPO."""
    need_tempo(tempo)
    return lines_of([pair_words(pair) for pair in tempo])


def read_tempo(text):
    """The TEMPO whose text it is."""
    reader = Reader(text)
    pairs = []
    while reader.has_row():
        pairs.append(read_pair(reader))
        reader.end_row()
    return need_tempo(tuple(pairs))


def rule_text(rule):
    """The text of a RULE."""
    voices, states = need_rule(rule)
    rows = [["voices", str(voices)]]
    for state in states:
        rows.append(["state"])
        for trial, following, fault in state:
            rows.append(trial_words(trial) + ["to", str(following)] + (["fault"] if fault else []))
    return lines_of(rows)


def trial_words(trial):
    """The words of a TEST."""
    words = []
    for part in trial:
        numbers = part[1:3] + part[3] if part[0] == "class" else part[1:]
        words.extend((["&"] if words else []) + words_of(part[0], numbers))
    return words if words else ["any"]


def read_rule(text):
    """The RULE whose text it is."""
    reader = Reader(text)
    reader.take(("voices",))
    voices = reader.number()
    reader.end_row()
    states = []
    while not states or reader.has_row():
        reader.take(("state",))
        reader.end_row()
        state = [read_triple(reader)]
        while reader.has_row() and reader.peek() != "state":
            state.append(read_triple(reader))
        states.append(tuple(state))
    return need_rule((voices, tuple(states)))


def read_triple(reader):
    """The triple of a STATE that a line tells."""
    trial = read_trial(reader)
    reader.take(("to",))
    following, fault = reader.number(), 0
    if reader.peek() == "fault":
        reader.take(("fault",))
        fault = 1
    reader.end_row()
    return (trial, following, fault)


def read_trial(reader):
    """The TEST that the next words tell."""
    if reader.peek() == "any":
        reader.take(("any",))
        return ()
    parts = [read_part(reader)]
    while reader.peek() == "&":
        reader.take(("&",))
        parts.append(read_part(reader))
    return tuple(parts)


def read_part(reader):
    """What stands in a TEST, as the next words tell."""
    word = reader.take(tuple(list(NUMBERS)))
    numbers = [reader.number() for _ in range(NUMBERS[word])]
    if word != "class":
        return (word,) + tuple(numbers)
    lot = []
    while reader.peek() not in ("&", "to"):
        lot.append(reader.number())
    return (word,) + tuple(numbers) + (tuple(lot),)


def instrument_text(instrument):
    """The text of an INSTRUMENT."""
    need_instrument(instrument)
    rows = []
    for word, part in zip(("place", "moves", "prices"), instrument):
        rows.extend([words_of(word, numbers) for numbers in part])
    return lines_of(rows)


def read_instrument(text):
    """The INSTRUMENT whose text it is."""
    reader = Reader(text)
    parts = []
    for word in ("place", "moves", "prices"):
        part = []
        while not part or reader.peek() == word:
            reader.take((word,))
            part.append(reader.numbers(0))
            reader.end_row()
        parts.append(tuple(part))
    reader.end()
    return need_instrument(tuple(parts))


def playing_text(playing):
    """The text of a PLAYING."""
    need_playing(playing)
    return lines_of([[stroke_word(pair) for pair in playing]])


def read_playing(text):
    """The PLAYING whose text it is."""
    reader = Reader(text)
    pairs = [reader.pair("@", None)]
    while reader.has_word():
        pairs.append(reader.pair("@", None))
    reader.end_row()
    reader.end()
    made = tuple(pairs)
    need_playing(made)
    return made

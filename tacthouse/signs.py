"""The signs of a score: whether each one can stand there, and what each one measures."""

from tacthouse.errors import BadScore
from tacthouse.kinds import is_from_to, is_row

MOST_SIGNS = 40
MOST_LENGTH = 10 ** 40
HIGHEST = 60
LONGEST = 96
SIZES = {"then": 3, "again": 3, "up": 3, "turned": 2, "back": 2, "slow": 3, "ends": 3}


def is_event(thing):
    """Whether a value is an EVENT."""
    if not is_row(thing, 2, 2) or not is_from_to(thing[1], 1, LONGEST):
        return False
    return thing[0] is None or is_from_to(thing[0], -HIGHEST, HIGHEST)


def is_event_row(thing):
    """Whether a value is a ROW."""
    return is_row(thing, 1, 12) and all([is_event(event) for event in thing])


def row_length(row):
    """The LENGTH of a row of EVENTS."""
    return sum([long for _, long in row])


def is_block(thing):
    """Whether a value is a BLOCK."""
    if not is_row(thing, 1, 4) or not all([is_event_row(row) for row in thing]):
        return False
    length = row_length(thing[0])
    return length <= 192 and all([row_length(row) == length for row in thing])


def is_third(word, thing, many):
    """Whether a value can be the third thing of a sign behind so many others."""
    if word == "then":
        return is_from_to(thing, 0, many - 1)
    if word == "again":
        return is_from_to(thing, 1, 10 ** 12)
    if word == "up":
        return is_from_to(thing, -24, 24)
    if word == "slow":
        return is_from_to(thing, 2, 3)
    return is_row(thing, 1, 4) and all([is_from_to(end, 0, many - 1) for end in thing])


def is_sign(thing, many):
    """Whether a value is a SIGN, behind so many others."""
    if not isinstance(thing, tuple) or len(thing) < 2 or not isinstance(thing[0], str):
        return False
    word = thing[0]
    if word == "block":
        return len(thing) == 2 and is_block(thing[1])
    if len(thing) != SIZES.get(word, 0) or not is_from_to(thing[1], 0, many - 1):
        return False
    return len(thing) == 2 or is_third(word, thing[2], many)


def named_parts(sign):
    """The numbers of the SIGNS of which one that is no block is put together, in turn, each with how often."""
    word, part = sign[0], sign[1]
    if word == "then":
        return [(part, 1), (sign[2], 1)]
    if word == "again":
        return [(part, sign[2])]
    if word == "ends":
        return [pair for end in sign[2] for pair in ((part, 1), (end, 1))]
    return [(part, 1)]


def slowing(sign):
    """How many times as long a SIGN makes what it names."""
    return sign[2] if sign[0] == "slow" else 1


def block_measure(block):
    """The measure of a BLOCK, as measure_of tells it."""
    pitches = [pitch for row in block for pitch, _ in row if pitch is not None]
    longest = max([long for row in block for _, long in row])
    return len(block), row_length(block[0]), min(pitches, default=0), max(pitches, default=0), longest, bool(pitches)


def part_measure(sign, ahead):
    """The measure of a SIGN that is no block, as measure_of tells it."""
    parts = named_parts(sign)
    factor = slowing(sign)
    length = factor * sum([ahead[part][1] * many for part, many in parts])
    longest = factor * max([ahead[part][4] for part, _ in parts])
    sounding = [ahead[part] for part, _ in parts if ahead[part][5]]
    low = min([measure[2] for measure in sounding], default=0)
    high = max([measure[3] for measure in sounding], default=0)
    if sign[0] == "turned":
        low, high = -high, -low
    if sign[0] == "up" and sounding:
        low, high = low + sign[2], high + sign[2]
    return ahead[0][0], length, low, high, longest, bool(sounding)


def measure_of(sign, ahead):
    """(VOICES, LENGTH, lowest, highest, longest, whether it has a PITCH) of a SIGN, by those ahead; None of no SIGN."""
    if not is_sign(sign, len(ahead)):
        return None
    measure = block_measure(sign[1]) if sign[0] == "block" else part_measure(sign, ahead)
    voices, length, low, high, longest, _ = measure
    if ahead and voices != ahead[0][0]:
        return None
    if length > MOST_LENGTH or low < -HIGHEST or high > HIGHEST or longest > LONGEST:
        return None
    return measure


def first_bad(signs):
    """The number of the first thing in a tuple that cannot stand there as a SIGN, or None."""
    ahead = []
    for number, sign in enumerate(signs):
        measure = measure_of(sign, ahead)
        if measure is None:
            return number
        ahead.append(measure)
    return None


def check_signs(thing):
    """Refuses any value that is no tuple of SIGNS that read as EVENTS."""
    if not is_row(thing, 1, MOST_SIGNS):
        raise BadScore(None)
    number = first_bad(thing)
    if number is not None:
        raise BadScore(number)


def lengths_of(score):
    """The LENGTHS of all SIGNS of a SCORE."""
    lengths = []
    for sign in score:
        if sign[0] == "block":
            lengths.append(row_length(sign[1][0]))
        else:
            lengths.append(slowing(sign) * sum([lengths[part] * many for part, many in named_parts(sign)]))
    return lengths


def event_counts(score, voice, only_pitches):
    """How many EVENTS each SIGN reads as in a VOICE: all, or only those with a PITCH."""
    counts = []
    for sign in score:
        if sign[0] == "block":
            counts.append(len([1 for pitch, _ in sign[1][voice] if pitch is not None or not only_pitches]))
        else:
            counts.append(sum([counts[part] * many for part, many in named_parts(sign)]))
    return counts

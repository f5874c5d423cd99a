"""VARIED SIGNS: those of which a SCORE is put together, and what they read."""

from tacthouse.kinds import is_integer, is_row
from tacthouse.signs import named_parts

MOST_ASKED = 200


def top_of(score):
    """The VARIED SIGN that is the SCORE itself."""
    return (len(score) - 1, 0, False, False, 1)


def parts_of(score, varied):
    """The VARIED SIGNS of which one is put together, in turn, each with how often; none of a block."""
    number, up, is_turned, is_back, slow = varied
    sign = score[number]
    word = sign[0]
    if word == "block":
        return []
    if word == "up":
        up = up - sign[2] if is_turned else up + sign[2]
    elif word == "turned":
        is_turned = not is_turned
    elif word == "back":
        is_back = not is_back
    elif word == "slow":
        slow = slow * sign[2]
    parts = [((part, up, is_turned, is_back, slow), many) for part, many in named_parts(sign)]
    return parts[::-1] if is_back else parts


def block_events(score, varied, voice):
    """The EVENTS that a VARIED SIGN reads as whose SIGN is a block."""
    number, up, is_turned, is_back, slow = varied
    row = score[number][1][voice]
    sign = -1 if is_turned else 1
    events = [(None if pitch is None else up + sign * pitch, long * slow) for pitch, long in row]
    return events[::-1] if is_back else events


def asked_of(score):
    """A dict of all VARIED SIGNS that are asked for, with how often each is used; None if there are too many."""
    levels = [{} for _ in score]
    levels[-1][top_of(score)] = 1
    asked = {}
    for number in reversed(range(len(score))):
        for varied in sorted(levels[number]):
            often = levels[number][varied]
            asked[varied] = often
            for part, many in parts_of(score, varied):
                below = levels[part[0]]
                below[part] = below.get(part, 0) + often * many
        if len(asked) > MOST_ASKED:
            return None
    return asked


def is_asked_for(asked, thing):
    """Whether a value is one of the VARIED SIGNS that are asked for."""
    if not is_row(thing, 5, 5) or not all([is_integer(thing[at]) for at in (0, 1, 4)]):
        return False
    return isinstance(thing[2], bool) and isinstance(thing[3], bool) and thing in asked


def rising(asked):
    """VARIED SIGNS in such an order that the parts of each stand ahead of it."""
    return sorted(list(asked))

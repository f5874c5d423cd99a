"""How many voices of a score have a pitch at once, without unfolding."""

from tacthouse.moments import segments_of
from tacthouse.scores import voice_count
from tacthouse.signs import lengths_of
from tacthouse.varied import asked_of, block_events, parts_of, rising, top_of


def crowd_of(score):
    """(the greatest CROWD of a SCORE, the first tick at which it is)."""
    lengths, crowds = lengths_of(score), {}
    for varied in rising(asked_of(score)):
        if score[varied[0]][0] == "block":
            found = block_crowds(score, varied)
        else:
            found, ahead = [], 0
            for part, many in parts_of(score, varied):
                found.append((crowds[part][0], ahead + crowds[part][1]))
                ahead += lengths[part[0]] * part[4] * many
        # Of several the first one, as they are in turn.
        crowds[varied] = max(found, key=lambda pair: pair[0])
    return crowds[top_of(score)]


def block_crowds(score, varied):
    """What is the CROWD in a block from which tick on, as often as it may become another one."""
    lines = [block_events(score, varied, voice) for voice in range(voice_count(score))]
    found, tick = [], 0
    for moment, ticks in segments_of(lines, (None,) * len(lines)):
        found.append((len([1 for pitch, _, _ in moment if pitch is not None]), tick))
        tick += ticks
    return found

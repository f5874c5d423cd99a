"""Whether two scores sound alike, where they part first, and papers on that."""

from tacthouse.errors import BadPaper
from tacthouse.kinds import is_ascending, is_from_to, is_integer, is_row, is_worded
from tacthouse.laps import make_lap
from tacthouse.parting import first_unlike, laps_to_single
from tacthouse.scores import need_score, voice_count
from tacthouse.signs import lengths_of
from tacthouse.sounds import sound_there
from tacthouse.wording import fold_of

MOST_LAPS = 700


def need_two(one, other):
    """Refuses what is no SCORE, of one, then of other."""
    need_score(one)
    need_score(other)


def are_alike(one, other):
    """Whether two SCORES are ALIKE."""
    return first_parting(one, other) is None


def first_parting(one, other):
    """None of SCORES that are ALIKE, else the least tick at which they part, with a VOICE or None."""
    need_two(one, other)
    return parting_by(one, other, [tick_of_voice(one, other, voice) for voice in shared_voices(one, other)])


def shared_voices(one, other):
    """The numbers of the VOICES of SCORES with as many; none of others."""
    return list(range(voice_count(one))) if voice_count(one) == voice_count(other) else []


def tick_of_voice(one, other, voice):
    """The first tick at which two SCORES part in a VOICE, one that is over counted; None of the same WORDS."""
    fold = fold_of((one, other), voice)
    if fold.are_same():
        return None
    laps_to_single(fold)
    return None if fold.are_same() else first_unlike(fold)


def parting_by(one, other, ticks):
    """What first_parting tells, by the ticks of all VOICES."""
    voices = sorted([voice_count(one), voice_count(other)])
    if voices[0] != voices[1]:
        return (0, voices[0])
    found = [tick for tick in ticks if tick is not None]
    if not found:
        return None
    least = min(found)
    if is_one_over(one, other, least):
        return (least, None)
    return (least, ticks.index(least))


def is_one_over(one, other, tick):
    """Whether just one of two SCORES is over at a tick."""
    return (lengths_of(one)[-1] <= tick) != (lengths_of(other)[-1] <= tick)


def alike_paper(one, other):
    """A PAPER on whether two SCORES are ALIKE."""
    need_two(one, other)
    rows, ticks = [], []
    for voice in shared_voices(one, other):
        fold = fold_of((one, other), voice)
        rows.append(tuple(laps_to_single(fold)))
        ticks.append(None if fold.are_same() else first_unlike(fold))
    parting = parting_by(one, other, ticks)
    return ("alike", tuple(rows)) if parting is None else ("part", parting[0], parting[1])


def check_alike(one, other, paper):
    """The word of a PAPER that holds."""
    need_two(one, other)
    if is_worded(paper, "alike", 2):
        if not does_alike_hold(one, other, paper[1]):
            raise BadPaper("alike")
        return "alike"
    if not is_worded(paper, "part", 3):
        raise BadPaper("form")
    if not does_part_hold(one, other, paper[1], paper[2]):
        raise BadPaper("part")
    return "part"


def is_lap(thing):
    """Whether a value is a LAP."""
    return is_worded(thing, "runs", 1) or is_worded(thing, "pairs", 2) and is_ascending(thing[1], 0)


def is_lap_row(thing):
    """Whether a value is a tuple of LAPS, not too many."""
    return is_row(thing, 0, MOST_LAPS) and all([is_lap(lap) for lap in thing])


def does_alike_hold(one, other, rows):
    """Whether the LAPS of a PAPER make the WORDS of each VOICE one and the same letter."""
    voices = voice_count(one)
    if voice_count(other) != voices or not is_row(rows, voices, voices):
        return False
    if not all([is_lap_row(laps) for laps in rows]):
        return False
    for voice, laps in enumerate(rows):
        if not do_laps_join(fold_of((one, other), voice), laps):
            return False
    return True


def do_laps_join(fold, laps):
    """Whether the words of a Fold are one and the same single letter behind LAPS."""
    for lap in laps:
        if fold.are_single():
            break
        make_lap(fold, lap)
    return fold.are_single() and fold.are_same()


def does_part_hold(one, other, tick, voice):
    """Whether two SCORES part at a tick, with this VOICE."""
    voices = sorted([voice_count(one), voice_count(other)])
    if not is_integer(tick) or tick < 0:
        return False
    if voices[0] != voices[1]:
        return tick == 0 and is_from_to(voice, voices[0], voices[1] - 1)
    if is_one_over(one, other, tick):
        return voice is None
    if tick >= lengths_of(one)[-1] or not is_from_to(voice, 0, voices[0] - 1):
        return False
    return sound_there(one, voice, tick) != sound_there(other, voice, tick)

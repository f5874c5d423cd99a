"""Rhythms on rings: turns, gaps, contents, and which ones are even."""

from tacthouse.errors import BadNumber, BadPaper, BadRing
from tacthouse.kinds import is_ascending_to, is_from_to, is_integer, is_row, is_worded

MOST_BEATS = 96


def is_rhythm(thing):
    """Whether any value is a RHYTHM."""
    if not is_row(thing, 2, 2) or not is_from_to(thing[0], 1, MOST_BEATS):
        return False
    return is_ascending_to(thing[1], 0, thing[0] - 1) and thing[1] != ()


def need_rhythm(rhythm):
    """Refuses any value that is no RHYTHM."""
    if not is_rhythm(rhythm):
        raise BadRing(rhythm)


def turned(rhythm, number):
    """The RHYTHM turned by an integer."""
    need_rhythm(rhythm)
    if not is_integer(number):
        raise BadNumber(number)
    return turned_by(rhythm, number)


def turned_by(rhythm, number):
    """A RHYTHM turned by an integer, both being such."""
    beats, strokes = rhythm
    return (beats, tuple(sorted([(stroke + number) % beats for stroke in strokes])))


def mirrored(rhythm):
    """The RHYTHM mirrored."""
    need_rhythm(rhythm)
    beats, strokes = rhythm
    return (beats, tuple(sorted([-stroke % beats for stroke in strokes])))


def left_of(rhythm):
    """The RHYTHM of the other beats, or None."""
    need_rhythm(rhythm)
    beats, strokes = rhythm
    others = tuple([beat for beat in range(beats) if beat not in strokes])
    return (beats, others) if others else None


def gaps_of(rhythm):
    """How far the next stroke lies ahead of each one."""
    need_rhythm(rhythm)
    return ring_gaps(rhythm)


def ring_gaps(rhythm):
    """The GAPS of what is a RHYTHM."""
    beats, strokes = rhythm
    behind = strokes[1:] + (strokes[0] + beats,)
    return tuple([later - stroke for stroke, later in zip(strokes, behind)])


def form_of(rhythm):
    """The least of all turns of the GAPS."""
    need_rhythm(rhythm)
    gaps = ring_gaps(rhythm)
    return min([gaps[at:] + gaps[:at] for at in range(len(gaps))])


def content_of(rhythm):
    """For each distance how many pairs of strokes have it."""
    need_rhythm(rhythm)
    beats, strokes = rhythm
    counts = [0] * beats
    for stroke in strokes:
        for other in strokes:
            counts[(other - stroke) % beats] += 1
    return tuple(counts[1:])


def period_of(rhythm):
    """The least integer from 1 on by which the RHYTHM is turned into itself."""
    need_rhythm(rhythm)
    number = 1
    while turned_by(rhythm, number) != rhythm:
        number += 1
    return number


def even_rhythm(beats, strokes):
    """The first even RHYTHM with so many beats and so many strokes."""
    if not is_from_to(beats, 1, MOST_BEATS):
        raise BadNumber(beats)
    if not is_from_to(strokes, 1, beats):
        raise BadNumber(strokes)
    return first_even(beats, strokes)


def first_even(beats, strokes):
    """The first even RHYTHM with so many beats and so many strokes, both being such numbers."""
    return (beats, tuple([stroke * beats // strokes for stroke in range(strokes)]))


def is_even(rhythm):
    """Whether a RHYTHM is even."""
    need_rhythm(rhythm)
    return even_turn(rhythm) is not None


def even_turn(rhythm):
    """The least number, from 0 on, by which a RHYTHM is turned into the first even one, or None."""
    beats, strokes = rhythm
    aim = first_even(beats, len(strokes))
    for number in range(beats):
        if turned_by(rhythm, number) == aim:
            return number
    return None


def stretch_sum(gaps, many, start):
    """The sum of so many GAPS from one on, going on over the end of the ring."""
    return sum([gaps[(start + at) % len(gaps)] for at in range(many)])


def even_paper(rhythm):
    """A PAPER on evenness."""
    need_rhythm(rhythm)
    number = even_turn(rhythm)
    if number is not None:
        return ("even", number)
    return ("uneven",) + unlike_stretches(rhythm)


def unlike_stretches(rhythm):
    """(J, I, H) of two stretches of J GAPS, the one from I on 2 or more above that from H on; the RHYTHM is uneven."""
    gaps = ring_gaps(rhythm)
    many, sums = 1, list(gaps)
    while max(sums) - min(sums) < 2:
        many += 1
        sums = [stretch_sum(gaps, many, start) for start in range(len(gaps))]
    return (many, sums.index(max(sums)), sums.index(min(sums)))


def check_even(rhythm, paper):
    """The first word of a PAPER that holds."""
    need_rhythm(rhythm)
    if is_worded(paper, "even", 2):
        if not is_integer(paper[1]) or paper[1] != even_turn(rhythm):
            raise BadPaper("turn")
        return "even"
    if not is_worded(paper, "uneven", 4):
        raise BadPaper("form")
    if not are_unlike(rhythm, paper[1], paper[2], paper[3]):
        raise BadPaper("stretches")
    return "uneven"


def are_unlike(rhythm, many, one, other):
    """Whether so many GAPS from one on are 2 or more above so many from other on; the three may be any values."""
    gaps = ring_gaps(rhythm)
    if not is_from_to(many, 1, len(gaps)):
        return False
    if not is_from_to(one, 0, len(gaps) - 1) or not is_from_to(other, 0, len(gaps) - 1):
        return False
    return stretch_sum(gaps, many, one) - stretch_sum(gaps, many, other) >= 2

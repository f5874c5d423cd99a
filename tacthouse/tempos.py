"""Tempos: how many seconds there are at each place, by pairs of how long and at what rate."""

from tacthouse.errors import BadFraction, BadPaper, BadTempo, TooMany
from tacthouse.kinds import is_row, is_worded
from tacthouse.quotients import (NOUGHT, ONE, divided, is_above_nought, is_from_nought, is_less, minus, plus,
                                 product_of, sum_of)

MOST_PAIRS = 40


def bad_pair(pairs):
    """The number of the first thing in a tuple that cannot stand there as a pair of a TEMPO, or None."""
    for number, pair in enumerate(pairs):
        if not is_tempo_pair(pair, number == len(pairs) - 1):
            return number
    return None


def is_tempo(thing):
    """Whether a value is a TEMPO."""
    return is_row(thing, 1, MOST_PAIRS) and bad_pair(thing) is None


def need_tempo(thing):
    """The value itself, if it is a TEMPO."""
    if not is_row(thing, 1, MOST_PAIRS):
        raise BadTempo("form")
    number = bad_pair(thing)
    if number is not None:
        raise BadTempo(number)
    return thing


def is_tempo_pair(thing, is_last):
    """Whether a value can be a pair of a TEMPO, the last one or another."""
    if not is_row(thing, 2, 2) or not is_above_nought(thing[1]):
        return False
    return thing[0] is None if is_last else is_above_nought(thing[0])


def tempo_at(tempo, x):
    """What a TEMPO has AT a FRACTION from nought on."""
    need_tempo(tempo)
    if not is_from_nought(x):
        raise BadFraction(x)
    return worth_at(tempo, x)


def worth_at(tempo, x):
    """What a TEMPO has AT x, both being such."""
    worth = NOUGHT
    for long, rate in tempo:
        if long is None or not is_less(long, x):
            return plus(worth, product_of(rate, x))
        worth = plus(worth, product_of(rate, long))
        x = minus(x, long)


def plain_tempo(tempo):
    """The PLAIN TEMPO that is alike."""
    return plainly(need_tempo(tempo))


def plainly(pairs):
    """The PLAIN TEMPO of some pairs, of any number."""
    made = []
    for long, rate in pairs:
        if made and made[-1][1] == rate:
            made[-1] = (None if long is None else plus(made[-1][0], long), rate)
        else:
            made.append((long, rate))
    return tuple(made)


def tempo_behind(tempo, other):
    """The TEMPO behind a TEMPO by another one."""
    need_tempo(tempo)
    need_tempo(other)
    made = one_behind(tempo, other)
    if len(made) > MOST_PAIRS:
        raise TooMany(MOST_PAIRS)
    return made


def one_behind(tempo, other):
    """The PLAIN TEMPO behind a TEMPO by another one, of any number of pairs."""
    pairs, number, left = [], 0, other[0][0]
    for long, rate in tempo:
        reach = None if long is None else product_of(long, rate)
        # The further pairs of the other one that begin within this reach.
        while left is not None and (reach is None or is_less(left, reach)):
            pairs.append((divided(left, rate), product_of(rate, other[number][1])))
            reach = None if reach is None else minus(reach, left)
            number += 1
            left = other[number][0]
        pairs.append((None if reach is None else divided(reach, rate), product_of(rate, other[number][1])))
        # Only what is without an end reaches beyond all pairs of the other one.
        if left is not None:
            left = minus(left, reach)
            if left == NOUGHT:
                number += 1
                left = other[number][0]
    return plainly(pairs)


def tempo_back(tempo):
    """The TEMPO back of a TEMPO."""
    return one_back(need_tempo(tempo))


def one_back(tempo):
    """The TEMPO back of what is a TEMPO."""
    return plainly([(None if long is None else product_of(long, rate), divided(ONE, rate)) for long, rate in tempo])


def bends_of(tempo):
    """The BENDS of a TEMPO, ascending."""
    return [sum_of([long for long, _ in tempo[:number]]) for number in range(1, len(tempo))]


def is_never_ahead(tempo, other):
    """Whether a TEMPO is never ahead of another one."""
    need_tempo(tempo)
    need_tempo(other)
    return place_ahead(tempo, other) is None


def is_ahead_at(tempo, other, x):
    """Whether a TEMPO has more AT x than another one."""
    return is_less(worth_at(other, x), worth_at(tempo, x))


def place_ahead(tempo, other):
    """A FRACTION AT which a TEMPO has more than another one, or None."""
    last = NOUGHT
    for bend in bends_of(tempo) + bends_of(other):
        if is_ahead_at(tempo, other, bend):
            return bend
        if is_less(last, bend):
            last = bend
    lead = minus(tempo[-1][1], other[-1][1])
    if not is_less(NOUGHT, lead):
        return None
    # Behind the last bend it comes nearer by its lead; a little later than it has come up it is ahead.
    behind = minus(worth_at(other, last), worth_at(tempo, last))
    return plus(plus(last, divided(behind, lead)), ONE)


def ahead_paper(tempo, other):
    """A paper on whether a TEMPO is never ahead of another one."""
    need_tempo(tempo)
    need_tempo(other)
    place = place_ahead(tempo, other)
    return ("never",) if place is None else ("ahead", place)


def check_ahead(tempo, other, paper):
    """The first word of a paper that holds."""
    need_tempo(tempo)
    need_tempo(other)
    if is_worded(paper, "never", 1):
        if place_ahead(tempo, other) is not None:
            raise BadPaper("never")
        return "never"
    if not is_worded(paper, "ahead", 2):
        raise BadPaper("form")
    if not is_from_nought(paper[1]) or not is_ahead_at(tempo, other, paper[1]):
        raise BadPaper("ahead")
    return "ahead"

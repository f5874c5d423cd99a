"""Scores in which each sign has a pace of its own."""

from tacthouse.kinds import is_row
from tacthouse.quotients import NOUGHT, ONE, contrary, is_above_nought, is_less, plus, product_of, sum_of, whole
from tacthouse.signs import event_counts, named_parts, row_length, slowing


def are_paces(score, thing):
    """Whether a value is PACES of a SCORE."""
    return is_row(thing, len(score), len(score)) and all([is_above_nought(pace) for pace in thing])


def rates_of(score, paces):
    """For each SIGN how many times as long as in its parts what is within it lasts."""
    return [product_of(pace, whole(slowing(sign))) for sign, pace in zip(score, paces)]


def lasting(score, paces):
    """What each SIGN of a SCORE lasts by PACES."""
    spans = []
    for sign, rate in zip(score, rates_of(score, paces)):
        if sign[0] == "block":
            inner = whole(row_length(sign[1][0]))
        else:
            inner = sum_of([product_of(spans[part], whole(many)) for part, many in named_parts(sign)])
        spans.append(product_of(rate, inner))
    return spans


def note_place(row, number):
    """The ticks of begin and end of the EVENT with a PITCH of this number in a ROW."""
    begin, ahead = 0, 0
    for pitch, long in row:
        if pitch is not None and ahead == number:
            break
        begin += long
        ahead += 0 if pitch is None else 1
    return begin, begin + long


def begin_by_paces(score, voice, number, paces):
    """The SECOND of the begin of the EVENT with a PITCH of this number in a VOICE, by PACES."""
    counts, spans, rates = event_counts(score, voice, True), lasting(score, paces), rates_of(score, paces)
    at, start, scale = len(score) - 1, NOUGHT, ONE
    # What is at a distance within the SIGN is scale times as far behind start; ahead of it, if scale is below nought.
    while score[at][0] != "block":
        scale = product_of(scale, rates[at])
        part, number, before = part_with(score[at], counts, spans, number)
        start = plus(start, product_of(scale, before))
        if score[at][0] == "back":
            start = plus(start, product_of(scale, spans[part]))
            scale, number = contrary(scale), counts[part] - 1 - number
        at = part
    begin, end = note_place(score[at][1][voice], number)
    tick = end if is_less(scale, NOUGHT) else begin
    return plus(start, product_of(product_of(scale, rates[at]), whole(tick)))


def part_with(sign, counts, spans, number):
    """The part of a SIGN with a number of a note in it, that number within it, and what the parts ahead last."""
    before = NOUGHT
    for part, many in named_parts(sign):
        copies = min(many, number // counts[part]) if counts[part] else many
        before = plus(before, product_of(spans[part], whole(copies)))
        number -= copies * counts[part]
        if copies < many:
            break
    return part, number, before

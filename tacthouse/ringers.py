"""Ringers: when rhythms by unlike clocks strike together, and what is sure of clocks that drift."""

from tacthouse.doubts import doubt_of
from tacthouse.errors import BadFraction, BadNumber, BadPaper, BadRinger, BadRingers, TooMany
from tacthouse.kinds import is_from_to, is_row, is_worded
from tacthouse.meets import Meets
from tacthouse.quotients import is_above_nought, is_fraction, is_less, product_of, reduced, whole
from tacthouse.rings import is_rhythm
from tacthouse.strikes import Ringing, bottom_of, greatest_part, least_multiple, scaled

MOST_CHOICES = 2000
MOST_UNITS = 2000
MOST_MEETS = 10 ** 12


def is_ringer(thing):
    """Whether a value is a RINGER."""
    return is_row(thing, 3, 3) and is_rhythm(thing[0]) and is_fraction(thing[1]) and is_above_nought(thing[2])


def need_ringers(ringers):
    """Refuses any value that is no RINGERS, and such with too many CHOICES."""
    if not is_row(ringers, 2, 4):
        raise BadRingers("form")
    choices = 1
    for number, ringer in enumerate(ringers):
        if not is_ringer(ringer):
            raise BadRingers(number)
        choices *= len(ringer[0][1])
    if choices > MOST_CHOICES:
        raise TooMany(MOST_CHOICES)


def need_ringer(ringer):
    """Refuses any value that is no RINGER."""
    if not is_ringer(ringer):
        raise BadRinger(ringer)


def need_second(second):
    """Refuses any value that is no FRACTION."""
    if not is_fraction(second):
        raise BadFraction(second)


def does_strike(one, second):
    """Whether a RINGER strikes at a SECOND."""
    need_ringer(one)
    need_second(second)
    bottom = bottom_of((one,), (second,))
    return Ringing(one, bottom).strikes_at(scaled(second, bottom))


def round_of(ringer):
    """How many SECONDS a RINGER takes for its ring."""
    return product_of(whole(ringer[0][0]), ringer[2])


def common_round(ringers):
    """The COMMON ROUND."""
    need_ringers(ringers)
    common = round_of(ringers[0])
    for ringer in ringers[1:]:
        common = least_multiple(common, round_of(ringer))
    return common


def many_meets(ringers):
    """At how many SECONDS of a COMMON ROUND the RINGERS MEET."""
    need_ringers(ringers)
    return len(Meets(ringers).meetings())


def first_meet(ringers, second):
    """The first SECOND, from this one on, at which the RINGERS MEET, or None."""
    need_ringers(ringers)
    need_second(second)
    return Meets(ringers).meet_from(second, 0)


def meet_at(ringers, second, number):
    """The SECOND of this number, from a SECOND on, at which the RINGERS MEET, or None."""
    need_ringers(ringers)
    need_second(second)
    if not is_from_to(number, 0, MOST_MEETS):
        raise BadNumber(number)
    return Meets(ringers).meet_from(second, number)


def meets_between(ringers, second, other):
    """At how many SECONDS, from one to below another, the RINGERS MEET."""
    need_ringers(ringers)
    need_second(second)
    need_second(other)
    return Meets(ringers).many_between(second, other) if is_less(second, other) else 0


def meet_paper(ringers):
    """A paper on whether the RINGERS ever MEET."""
    need_ringers(ringers)
    meets = Meets(ringers)
    found = meets.meetings()
    if found:
        time, choice = found[0]
        return ("meet", choice, reduced(time, meets.bottom))
    return ("never", tuple([meets.clash_in(choice) for choice in meets.choices()]))


def check_meet(ringers, paper):
    """The first word of a paper that holds."""
    need_ringers(ringers)
    if is_worded(paper, "meet", 3):
        if not do_meet(ringers, paper[1], paper[2]):
            raise BadPaper("meet")
        return "meet"
    if not is_worded(paper, "never", 2):
        raise BadPaper("form")
    if not do_clash(ringers, paper[1]):
        raise BadPaper("never")
    return "never"


def do_meet(ringers, choice, second):
    """Whether a value is a CHOICE by which the RINGERS MEET at what is a SECOND."""
    if not is_row(choice, len(ringers), len(ringers)) or not is_fraction(second):
        return False
    bottom = bottom_of(ringers, (second,))
    for ringer, stroke in zip(ringers, choice):
        (beats, strokes), start, beat = ringer
        if not is_from_to(stroke, 0, beats - 1) or stroke not in strokes:
            return False
        if not Ringing(((beats, (stroke,)), start, beat), bottom).strikes_at(scaled(second, bottom)):
            return False
    return True


def do_clash(ringers, clashes):
    """Whether a value tells, for each CHOICE, two RINGERS that clash in it."""
    meets = Meets(ringers)
    choices = meets.choices()
    if not is_row(clashes, len(choices), len(choices)):
        return False
    for choice, pair in zip(choices, clashes):
        if not is_row(pair, 2, 2) or not is_from_to(pair[1], 0, len(ringers) - 1):
            return False
        if not is_from_to(pair[0], 0, pair[1] - 1) or not meets.is_clash(choice, pair[0], pair[1]):
            return False
    return True


def nearest_strokes(one, other):
    """The NEAREST of two RINGERS."""
    need_ringer(one)
    need_ringer(other)
    bottom = bottom_of((one, other), ())
    first, second = Ringing(one, bottom), Ringing(other, bottom)
    share = scaled(greatest_part(round_of(one), round_of(other)), bottom)
    rests = [(first.times[left] - second.times[right]) % share for left in first.strokes for right in second.strokes]
    return reduced(min([min(rest, share - rest) for rest in rests]), bottom)


def dodges(one, other):
    """All DODGES of two RINGERS, ascending."""
    need_ringer(one)
    need_ringer(other)
    bottom = bottom_of((one, other), ())
    unit = scaled(greatest_part(one[2], other[2]), bottom)
    units = scaled(greatest_part(round_of(one), round_of(other)), bottom) // unit
    if units > MOST_UNITS:
        raise TooMany(MOST_UNITS)
    beat, other_beat = scaled(one[2], bottom) // unit, scaled(other[2], bottom) // unit
    met = {(left * beat - right * other_beat) % units for left in one[0][1] for right in other[0][1]}
    return tuple([number for number in range(units) if number not in met])


def first_doubt(one, other, low, high, mark):
    """The FIRST DOUBT of two RINGERS, or None."""
    need_ringer(one)
    need_ringer(other)
    if not is_above_nought(low):
        raise BadFraction(low)
    if not is_fraction(high) or is_less(high, low):
        raise BadFraction(high)
    need_second(mark)
    if low == high:
        second = Meets((one, other)).meet_from(mark, 0)
        return None if second is None else (second, second)
    return doubt_of(one, other, low, high, mark)

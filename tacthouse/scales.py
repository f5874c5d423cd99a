"""Scales of equal steps: what they give to ratios, which of them even out told ones, and papers on that."""

from tacthouse.errors import BadPaper, BadRatio, BadScale
from tacthouse.kinds import is_from_to, is_integer, is_row, is_worded
from tacthouse.quotients import is_fraction, plus, product_of, whole
from tacthouse.vectors import (across, all_shortened, axis, less_times, shortened, split_by, turned_over, weights_for,
                               whole_weights, worth)

MOST_WORTH = 10 ** 9


def is_ratio(thing):
    """Whether a value is a RATIO."""
    return is_row(thing, 4, 4) and all([is_from_to(often, -20, 20) for often in thing])


def is_scale(thing):
    """Whether a value is a SCALE."""
    if not is_row(thing, 4, 4) or not all([is_from_to(steps, -MOST_WORTH, MOST_WORTH) for steps in thing]):
        return False
    return thing[0] >= 1


def need_scale(scale):
    """Refuses any value that is no SCALE."""
    if not is_scale(scale):
        raise BadScale(scale)


def need_ratios(ratios):
    """Refuses any value that is no RATIOS."""
    if not is_row(ratios, 0, 4) or not all([is_ratio(ratio) for ratio in ratios]):
        raise BadRatio(ratios)


def steps_of(scale, ratio):
    """How many steps a SCALE gives to a RATIO."""
    need_scale(scale)
    if not is_ratio(ratio):
        raise BadRatio(ratio)
    return worth(scale, ratio)


def evens_out(scale, ratios):
    """Whether a SCALE evens out RATIOS."""
    need_scale(scale)
    need_ratios(ratios)
    return does_even_out(scale, ratios)


def does_even_out(scale, ratios):
    """Whether a SCALE gives 0 steps to each of RATIOS."""
    return not any([worth(scale, ratio) for ratio in ratios])


def evening(ratios):
    """A SCALE that evens out RATIOS, with as few STEPS as can be, and a vector; None, None if there is no such SCALE.

    Whatever gives each of the RATIOS 0 has as first number what it is worth by this vector, times these STEPS.
    """
    rest, used = [axis(number) for number in range(4)], []
    for ratio in ratios:
        one, rest = split_by(rest, ratio)
        if one is not None:
            used.append(one)
    one, rest = split_by(rest, axis(0))
    if one is None:
        return None, None
    if one[0] < 0:
        one = turned_over(one)
    scale, own = shortened(one, all_shortened(rest)), across(rest + used)
    return scale, own if worth(own, scale) > 0 else turned_over(own)


def least_steps(ratios):
    """The least number of STEPS of a SCALE that evens out RATIOS, or None."""
    need_ratios(ratios)
    scale, _ = evening(ratios)
    return None if scale is None else scale[0]


def scale_paper(ratios):
    """A PAPER on RATIOS."""
    need_ratios(ratios)
    scale, own = evening(ratios)
    if scale is None:
        return ("none",) + whole_weights(weights_for(ratios, axis(0)))
    return ("every", scale[0], scale, own, weights_for(ratios, less_times(axis(0), own, scale[0])))


def check_scale(ratios, paper):
    """The first word of a PAPER that holds."""
    need_ratios(ratios)
    if is_worded(paper, "none", 3):
        check_none(ratios, paper[1], paper[2])
        return "none"
    if not is_worded(paper, "every", 5):
        raise BadPaper("form")
    check_every(ratios, paper[1], paper[2])
    check_own(ratios, paper[1], paper[3], paper[4])
    return "every"


def check_none(ratios, weights, number):
    """Refuses what does not tell that no SCALE evens out RATIOS."""
    if not is_row(weights, len(ratios), len(ratios)) or not all([is_integer(weight) for weight in weights]):
        raise BadPaper("weights")
    sums = summed(ratios, [whole(weight) for weight in weights])
    if not is_integer(number) or number == 0 or sums != [whole(part) for part in (number, 0, 0, 0)]:
        raise BadPaper("sum")


def check_every(ratios, number, scale):
    """Refuses what does not tell that a SCALE evens out RATIOS and has so many STEPS."""
    if not is_integer(number) or number < 1:
        raise BadPaper("number")
    if not is_scale(scale) or scale[0] != number or not does_even_out(scale, ratios):
        raise BadPaper("scale")


def check_own(ratios, number, own, weights):
    """Refuses what does not tell that each one that evens out RATIOS has a multiple of so many STEPS."""
    if not is_row(own, 4, 4) or not all([is_integer(part) for part in own]):
        raise BadPaper("own")
    if not is_row(weights, len(ratios), len(ratios)) or not all([is_fraction(weight) for weight in weights]):
        raise BadPaper("weights")
    if summed(ratios, weights) != [whole(part) for part in less_times(axis(0), own, number)]:
        raise BadPaper("weights")


def summed(ratios, weights):
    """The sum of RATIOS times their WEIGHTS, a list of FRACTIONS."""
    sums = [whole(0)] * 4
    for ratio, weight in zip(ratios, weights):
        sums = [plus(part, product_of(weight, whole(often))) for part, often in zip(sums, ratio)]
    return sums

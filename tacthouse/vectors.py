"""Tuples of four integers: what they are worth by one another, and which of them are worth 0 by all of some."""

from math import gcd

from tacthouse.quotients import reduced


def worth(one, other):
    """The sum of what two vectors have at the same places, multiplied."""
    return sum([left * right for left, right in zip(one, other)])


def less_times(one, other, many):
    """A vector less so many times another one."""
    return tuple([left - many * right for left, right in zip(one, other)])


def turned_over(one):
    """The contrary vector."""
    return tuple([-part for part in one])


def axis(number):
    """The vector with 1 at one place, and 0 elsewhere."""
    return tuple([1 if place == number else 0 for place in range(4)])


def split_by(vectors, form):
    """One of other vectors that span the same, and the others, which are worth 0 by form; None if all are worth 0."""
    rest = list(vectors)
    while len([one for one in rest if worth(one, form)]) > 1:
        sizes = [(abs(worth(one, form)), at) for at, one in enumerate(rest) if worth(one, form)]
        _, least = min(sizes)
        rest = [one if at == least else less_times(one, rest[least], worth(one, form) // worth(rest[least], form))
                for at, one in enumerate(rest)]
    ones = [one for one in rest if worth(one, form)]
    return (ones[0] if ones else None), [one for one in rest if not worth(one, form)]


def nearest_times(one, other):
    """How many times another vector is taken from one that it becomes as short as can be."""
    square = worth(other, other)
    return (2 * worth(one, other) + square) // (2 * square)


def shortened(one, others):
    """A vector, less others so often that none of them alone makes it shorter still."""
    made, before = one, None
    while made != before:
        before = made
        for other in others:
            trial = less_times(made, other, nearest_times(made, other))
            if worth(trial, trial) < worth(made, made):
                made = trial
    return made


def all_shortened(vectors):
    """Vectors that span the same, none of which another one alone makes shorter."""
    made, before = list(vectors), []
    while made != before:
        before = list(made)
        for at in range(len(made)):
            made[at] = shortened(made[at], made[:at] + made[at + 1:])
    return made


def minor(rows, places):
    """The determinant of three vectors at three places."""
    one, two, three = [[row[place] for place in places] for row in rows]
    return (one[0] * (two[1] * three[2] - two[2] * three[1]) - one[1] * (two[0] * three[2] - two[2] * three[0])
            + one[2] * (two[0] * three[1] - two[1] * three[0]))


def across(rows):
    """A vector by which three vectors are worth 0, and any fourth one what the determinant of all four is."""
    made = []
    for place in range(4):
        rest = minor(rows, [other for other in range(4) if other != place])
        made.append(-rest if place % 2 else rest)
    return tuple(made)


def weights_for(rows, goal):
    """FRACTIONS, one for each row, such that the rows times these are a goal, which some such are."""
    # Each step is (a sum of rows, how often each row is in it, the first place at which it is not 0).
    steps = []
    for number, row in enumerate(rows):
        sums, often = list(row), [1 if at == number else 0 for at in range(len(rows))]
        for step, shares, place in steps:
            factor, other = step[place], sums[place]
            sums = [left * factor - right * other for left, right in zip(sums, step)]
            often = [left * factor - right * other for left, right in zip(often, shares)]
        places = [place for place in range(4) if sums[place]]
        if places:
            steps.append((sums, often, places[0]))
    left, found, bottom = list(goal), [0] * len(rows), 1
    for step, shares, place in steps:
        factor, other = step[place], left[place]
        left = [one * factor - two * other for one, two in zip(left, step)]
        found = [one * factor + two * other for one, two in zip(found, shares)]
        bottom *= factor
    sign = 1 if bottom > 0 else -1
    return tuple([reduced(sign * share, sign * bottom) for share in found])


def whole_weights(weights):
    """FRACTIONS times the least integer from 1 on that makes them integers, and this integer."""
    many = 1
    for _, bottom in weights:
        many = many * bottom // gcd(many, bottom)
    return tuple([top * (many // bottom) for top, bottom in weights]), many

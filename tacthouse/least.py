"""Costs: for each state ahead and each state behind how few faults there can be between them, None if it cannot be."""


def no_cost(states):
    """The COST by no ticks, of so many STATES."""
    return tuple([tuple([0 if ahead == behind else None for behind in range(states)]) for ahead in range(states)])


def cost_of(change):
    """The COST by what has no choice."""
    rows = []
    for behind, faults in change:
        rows.append(tuple([faults if state == behind else None for state in range(len(change))]))
    return tuple(rows)


def lesser(one, other):
    """The lesser one of two numbers, either perhaps None."""
    if one is None or other is None:
        return other if one is None else one
    return min(one, other)


def cheaper(one, other):
    """The COST if either can be chosen."""
    return tuple([tuple([lesser(left, right) for left, right in zip(row, other_row)])
                  for row, other_row in zip(one, other)])


def cost_behind(one, other):
    """One COST, and another one behind it."""
    rows = []
    for row in one:
        made = [None] * len(row)
        for faults, other_row in zip(row, other):
            if faults is not None:
                made = [lesser(least, None if more is None else faults + more) for least, more in zip(made, other_row)]
        rows.append(tuple(made))
    return tuple(rows)


def cost_times(cost, many):
    """A COST so many times."""
    made, power = no_cost(len(cost)), cost
    while many:
        if many % 2:
            made = cost_behind(made, power)
        many //= 2
        if many:
            power = cost_behind(power, power)
    return made

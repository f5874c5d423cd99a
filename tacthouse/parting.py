"""Laps that make two words single letters, and the tick at which words part that do not become the same one."""

from tacthouse.halves import chosen_left
from tacthouse.laps import joints, make_pairs, make_runs


def laps_to_single(fold):
    """Makes LAPS until both words of a Fold are single letters; the LAPS."""
    laps = []
    while not fold.are_single():
        found = joints(fold)
        if any([left == right for left, right in found]):
            make_runs(fold)
            laps.append(("runs",))
        else:
            left = chosen_left(found)
            make_pairs(fold, {letter: True for letter in left})
            laps.append(("pairs", tuple(left)))
    return laps


def first_unlike(fold):
    """The first tick at which words part that have become unlike single letters."""
    stacks = [[fold.rows[top][0]] for top in fold.tops]
    tick = 0
    while stacks[0] and stacks[1]:
        (one, many), (other, more) = stacks[0].pop(), stacks[1].pop()
        if one == other:
            both = min(many, more)
            tick += both * fold.ticks[one]
            put_back(stacks[0], one, many - both)
            put_back(stacks[1], one, more - both)
        elif max(one, other) < fold.firsts:
            return tick + tick_apart(fold, one, other)
        else:
            put_back(stacks[0], one, many)
            put_back(stacks[1], other, more)
            open_top(fold, stacks[0 if one > other else 1])
    return tick


def put_back(stack, letter, many):
    """Puts so many of a letter on top of a stack, if any."""
    if many:
        stack.append((letter, many))


def open_top(fold, stack):
    """Puts what the letter on top of a stack stands for in the place of one of it."""
    letter, many = stack.pop()
    put_back(stack, letter, many - 1)
    stack.extend(fold.meanings[letter][::-1])


def tick_apart(fold, one, other):
    """How far behind the begin of two unlike first letters what is heard is first unlike."""
    if fold.meanings[one][0] != fold.meanings[other][0]:
        return 0
    return min(fold.ticks[one], fold.ticks[other])

"""Instruments and players for tests, made by a fixed row of numbers, and plain looks at what they can do."""

import itertools

from tests import plain


def instrument(numbers, places, pitches=range(-12, 13), often=3, slowest=4):
    """An INSTRUMENT with so many PLACES; one PITCH in so many is missing at a PLACE."""
    sounds = tuple(tuple(pitch for pitch in pitches if numbers.below(often))[:24] for _ in range(places))
    moves = tuple(tuple(numbers.below(slowest) if numbers.below(3) else 0 for _ in range(places)) for _ in range(places))
    prices = tuple(tuple(numbers.below(10) for _ in range(places)) for _ in range(places))
    return (sounds, moves, prices)


def notes(score, voice):
    """(PITCH, begin, end) of all EVENTS with a PITCH."""
    found, tick = [], 0
    for pitch, long in plain.events(score, voice):
        if pitch is not None:
            found.append((pitch, tick, tick + long))
        tick += long
    return found


def price(made, row, fingering):
    """The PRICE of a FINGERING of some notes, None if it is none; by the words of [701]."""
    sounds, moves, prices = made
    if len(fingering) != len(row):
        return None
    if any(pitch not in sounds[place] for (pitch, _, _), place in zip(row, fingering)):
        return None
    total = 0
    for at in range(1, len(row)):
        one, other = fingering[at - 1], fingering[at]
        if row[at][1] - row[at - 1][2] < moves[one][other]:
            return None
        total += prices[one][other]
    return total


def fingerings(made, row):
    """All FINGERINGS with their PRICES, trying all places."""
    found = {}
    for trial in itertools.product(range(len(made[0])), repeat=len(row)):
        cost = price(made, row, trial)
        if cost is not None:
            found[trial] = cost
    return found


def table(made, row):
    """The TABLE of some notes, going over them one by one from each PLACE."""
    sounds, moves, prices = made
    places = range(len(sounds))
    rows = []
    for start in places:
        costs = [0 if place == start and row[0][0] in sounds[start] else None for place in places]
        for (_, _, end), (pitch, begin, _) in zip(row, row[1:]):
            fresh = []
            for place in places:
                ways = [costs[one] + prices[one][place] for one in places if costs[one] is not None and moves[one][place] <= begin - end]
                fresh.append(min(ways) if ways and pitch in sounds[place] else None)
            costs = fresh
        rows.append(tuple(costs))
    return tuple(rows)


def least(made, row):
    """The LEAST PRICE of some notes."""
    if not row:
        return 0
    return min((cost for costs in table(made, row) for cost in costs if cost is not None), default=None)


def no_instruments():
    """(value, place) of values that are no INSTRUMENTS."""
    sounds, moves, prices = ((0,), (1, 2)), ((0, 1), (2, 3)), ((0, 5), (7, 9))
    found = [(odd, "form") for odd in (None, 0, (), (sounds,), (sounds, moves), (sounds, moves, prices, ()), [sounds, moves, prices], "abc")]
    for odd in (None, 0, (), [(0,), (1,)], ((0,),) * 7, ((0,), None), ((0,), [1]), ((0,), (1, 1)), ((0,), (2, 1)), ((0,), (61,)), ((0,), (-61,)), ((0,), (True,)),
                ((0,), (None,)), ((0,), tuple(range(25))), ("", (0,)), {}):
        found.append(((odd, None, None), "sounds"))
    for place, most in (("moves", 96), ("prices", 10 ** 6)):
        for odd in (None, 0, (), [(0, 1), (2, 3)], ((0, 1),), ((0, 1), (2, 3), (4, 5)), ((0, 1), (2,)), ((0, 1), (2, 3, 4)), ((0, 1), [2, 3]), ((0, 1), (2, -1)),
                    ((0, 1), (2, most + 1)), ((0, 1), (2, True)), ((0, None), (2, 3)), ((0, 1), None), ((0, "1"), (2, 3))):
            found.append(((sounds, odd, None) if place == "moves" else (sounds, moves, odd), place))
    return found


def crowds(score):
    """The CROWD at each tick."""
    rows = [plain.sounds(score, voice) for voice in range(plain.voices(score))]
    return [sum(pitch is not None for pitch, _ in heard) for heard in zip(*rows)]


def does_share(score, players, value, state=None):
    """Whether a value of the right shape is a SHARING, by the words of [720]; from a REST STATE, if one is told."""
    begun = [[] for _ in players]
    for voice in range(plain.voices(score)):
        for (pitch, begin, end), player in zip(notes(score, voice), value[voice]):
            low, high, _ = players[player]
            if not low <= pitch <= high:
                return False
            begun[player].append((begin, end))
    for number, row in enumerate(begun):
        breath = players[number][2]
        if len({begin for begin, _ in row}) < len(row):
            return False
        for one, end in row:
            if any(one < begin < end + breath for begin, _ in row):
                return False
        if state is not None and any(begin < breath - state[number] for begin, _ in row):
            return False
    return True


def rests(score, players, value, state):
    """The REST STATE behind a SHARING that begins with one."""
    length, found = plain.length(score), []
    for number, (_, _, breath) in enumerate(players):
        ends = [end for voice in range(plain.voices(score)) for (_, _, end), player in zip(notes(score, voice), value[voice]) if player == number]
        found.append(min(breath, length - max(ends) if ends else state[number] + length))
    return tuple(found)


def sharings(score, players):
    """All values of the shape of a SHARING."""
    counts = [len(notes(score, voice)) for voice in range(plain.voices(score))]
    for flat in itertools.product(range(len(players)), repeat=sum(counts)):
        made, at = [], 0
        for count in counts:
            made.append(flat[at:at + count])
            at += count
        yield tuple(made)


def no_players():
    """(value, place) of values that are no PLAYERS."""
    one = (-60, 60, 6)
    found = [(odd, None) for odd in (None, 0, (), [one], (one,) * 4, one * 2, {}, "abc", True) if not (isinstance(odd, tuple) and len(odd) == 3)]
    for odd in (None, 0, (), [-60, 60, 6], (0, 0), (0, 0, 0, 0), (1, 0, 0), (-61, 0, 0), (0, 61, 0), (0, 0, 7), (0, 0, -1), (True, 1, 0), (0, True, 0), (0, 0, False),
                (None, 0, 0), (0, None, 0), (0, 0, None), ("0", 0, 0)):
        found.extend([((odd,), 0), ((one, odd), 1), ((one, one, odd), 2), ((one, odd, None), 1)])
    return found

"""Papers that a rule is kept: by each varied sign and ear the ways from state to state without a fault."""

from tacthouse.kinds import is_from_to, is_row
from tacthouse.moments import state_times
from tacthouse.signs import HIGHEST
from tacthouse.varied import is_asked_for


def kept_rows(look):
    """The ROWS of a PAPER that the RULE of a Look is kept, there being no fault."""
    hearing = look.hearing
    needed = {heard: {} for level in hearing.levels for heard in level}
    needed[hearing.start][0] = True
    for level in hearing.levels[::-1]:
        for heard in level:
            for state in list(needed[heard]):
                for part, many in hearing.parts(heard):
                    for ahead in states_ahead(look.changes[part], state, many):
                        needed[part][ahead] = True
                    state, _ = state_times(look.changes[part], state, many)
    rows = []
    for heard, states in needed.items():
        ways = [(state, look.changes[heard][state][0]) for state in sorted(list(states))]
        rows.append((heard[0], heard[1], tuple(ways)))
    return tuple(rows)


def states_ahead(change, state, many):
    """The unlike STATES that are ahead of a CHANGE when it comes so many times."""
    states = []
    while len(states) < many and state not in states:
        states.append(state)
        state = change[state][0]
    return states


def is_ear(hearing, thing):
    """Whether a value is an ear."""
    if not is_row(thing, hearing.voices, hearing.voices):
        return False
    return all([pitch is None or is_from_to(pitch, -HIGHEST, HIGHEST) for pitch in thing])


def are_ways(thing, states):
    """Whether a value is WAYS between so many STATES."""
    if not isinstance(thing, tuple):
        return False
    least = 0
    for way in thing:
        if not is_row(way, 2, 2) or not is_from_to(way[0], least, states - 1) or not is_from_to(way[1], 0, states - 1):
            return False
        least = way[0] + 1
    return True


def told_ways(look, rows):
    """A dict of the ways of ROWS, by pairs (VARIED SIGN, ear); None if a value has not the form of ROWS."""
    if not isinstance(rows, tuple):
        return None
    told = {}
    for row in rows:
        if not is_row(row, 3, 3) or not is_asked_for(look.hearing.asked, row[0]) or not is_ear(look.hearing, row[1]):
            return None
        heard = (row[0], row[1])
        if heard in told or not are_ways(row[2], len(look.looker.states)):
            return None
        told[heard] = {ahead: behind for ahead, behind in row[2]}
    return told


def are_ways_kept(look, rows):
    """Whether a value is ROWS of a PAPER that holds that the RULE is kept."""
    told = told_ways(look, rows)
    if told is None or 0 not in told.get(look.hearing.start, {}):
        return False
    return all([does_lead(look, told, heard) for heard in told])


def does_lead(look, told, heard):
    """Whether all ways of a pair (VARIED SIGN, ear) are as its block, or the ways of its parts, have it."""
    if look.hearing.is_block(heard[0]):
        change = look.block_change(heard)
        return all([change[ahead] == (behind, 0) for ahead, behind in told[heard].items()])
    for ahead, behind in told[heard].items():
        state = ahead
        for part, many in look.hearing.parts(heard):
            state = state_by_ways(told.get(part, {}), state, many)
            if state is None:
                return False
        if state != behind:
            return False
    return True


def state_by_ways(ways, state, many):
    """The STATE behind so many times the same ways, None if one is not there."""
    states = [state]
    while len(states) <= many:
        behind = ways.get(states[-1])
        if behind is None:
            return None
        if behind in states:
            start = states.index(behind)
            return states[start + (many - start) % (len(states) - start)]
        states.append(behind)
    return states[many]

"""What rules look at: moments, and what a rule does by them.

A MOMENT tells what is at one tick: a tuple with, for each voice, (PITCH or None, whether an EVENT with a PITCH begins,
the PITCH of the last such EVENT ahead or None). A CHANGE tells what some ticks do to a RULE: a tuple with, for each
STATE, (the STATE behind, how many faults).
"""


def does_part_hold(part, moment):
    """Whether what stands in a TEST holds at a MOMENT."""
    word = part[0]
    pitch, does_begin, last = moment[part[1]]
    if word == "silent":
        return pitch is None
    if pitch is None:
        return False
    if word == "sounds":
        return True
    if word == "begins":
        return does_begin
    if word == "pitch":
        return part[2] <= pitch <= part[3]
    if word == "step":
        return does_begin and last is not None and part[2] <= pitch - last <= part[3]
    other = moment[part[2]][0]
    if other is None:
        return False
    if word == "class":
        return (pitch - other) % 12 in part[3]
    return part[3] <= pitch - other <= part[4]


def tick_by(state, moment):
    """(NEXT, FAULT) of a STATE, which is its triples, at a MOMENT."""
    for trial, following, fault in state:
        if all([does_part_hold(part, moment) for part in trial]):
            break
    return following, fault


def no_change(states):
    """The CHANGE by no ticks, of so many STATES."""
    return tuple([(state, 0) for state in range(states)])


def change_behind(one, other):
    """One CHANGE, and another one behind it."""
    made = []
    for state, faults in one:
        behind, more = other[state]
        made.append((behind, faults + more))
    return tuple(made)


def change_times(change, many):
    """A CHANGE so many times, from none on."""
    if many == 1:
        return change
    return tuple([state_times(change, state, many) for state in range(len(change))])


def state_times(change, state, many):
    """(the STATE behind, how many faults) of a STATE by a CHANGE so many times."""
    states, faults = [state], [0]
    while len(states) <= many:
        behind, more = change[states[-1]]
        if behind in states:
            # From here on the same STATES come again, round by round.
            start = states.index(behind)
            rounds, rest = divmod(many - start, len(states) - start)
            gain = faults[-1] + more - faults[start]
            return states[start + rest], faults[start + rest] + rounds * gain
        states.append(behind)
        faults.append(faults[-1] + more)
    return states[many], faults[many]


def times_ahead(change, state, most, faults):
    """How many times, most at most, a CHANGE goes from a STATE until one more time would make more faults than told."""
    powers = [change]
    while 1 << len(powers) <= most:
        powers.append(change_behind(powers[-1], powers[-1]))
    times = 0
    for at in reversed(range(len(powers))):
        behind, more = powers[at][state]
        if times + (1 << at) <= most and more <= faults:
            state, faults, times = behind, faults - more, times + (1 << at)
    return times


def segments_of(lines, ear):
    """What lines, each of EVENTS, all as long, tell by an ear: a list of (MOMENT, so many ticks)."""
    heard, found = list(ear), []
    places = [0] * len(lines)
    left = [line[0][1] for line in lines]
    fresh = [True] * len(lines)
    while places[0] < len(lines[0]):
        pitches = [line[place][0] for line, place in zip(lines, places)]
        begins = [is_new and pitch is not None for is_new, pitch in zip(fresh, pitches)]
        ticks = min(left)
        put_segments(found, pitches, begins, heard, ticks)
        heard = [pitch if does_begin else last for pitch, does_begin, last in zip(pitches, begins, heard)]
        fresh = [rest == ticks for rest in left]
        places = [place + 1 if is_new else place for place, is_new in zip(places, fresh)]
        left = [next_left(line, place, rest - ticks) for line, place, rest in zip(lines, places, left)]
    return found


def next_left(line, place, rest):
    """How many ticks are left of the EVENT at a place of a line, if this many are of the one ahead."""
    if rest or place == len(line):
        return rest
    return line[place][1]


def put_segments(found, pitches, begins, heard, ticks):
    """Puts what so many ticks tell, at the first of which EVENTS may begin, behind what is found."""
    # A last PITCH matters only where an EVENT begins, and is left out elsewhere: so more MOMENTS are the same.
    still = tuple([(pitch, False, None) for pitch in pitches])
    if any(begins):
        found.append((tuple([(pitch, does_begin, last if does_begin else None)
                             for pitch, does_begin, last in zip(pitches, begins, heard)]), 1))
        ticks -= 1
    if ticks:
        found.append((still, ticks))


class Looker:
    """A RULE that looks at MOMENTS; what it does by one is worked out once."""

    def __init__(self, rule):
        self.states = rule[1]
        self.known = {}

    def change(self, moment):
        """The CHANGE by one tick."""
        if moment not in self.known:
            self.known[moment] = tuple([tick_by(state, moment) for state in self.states])
        return self.known[moment]

    def change_over(self, lines, ear):
        """The CHANGE by lines, ahead of which there is an ear."""
        made = no_change(len(self.states))
        for moment, ticks in segments_of(lines, ear):
            made = change_behind(made, change_times(self.change(moment), ticks))
        return made

    def is_kept_by(self, lines):
        """Whether lines, ahead of which nothing is heard, keep the RULE."""
        return self.change_over(lines, (None,) * len(lines))[0][1] == 0

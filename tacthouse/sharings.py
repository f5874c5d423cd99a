"""Which player of several plays which event of a score: sharings, and the rest states that come of them.

Where players play, their ENDS are kept: a tuple with, for each player, the tick at which the last EVENT that he began
ends, counted as the other ticks are; no sooner than his breath ahead of the tick that is looked at, as it then does
not matter any more.
"""

from tacthouse.errors import BadPlayers
from tacthouse.kinds import is_from_to, is_row
from tacthouse.scores import notes_read, voice_count
from tacthouse.signs import HIGHEST, lengths_of
from tacthouse.varied import block_events, parts_of, top_of

MOST_PLAYERS = 3
MOST_BREATH = 6


def is_player(thing):
    """Whether a value is one of PLAYERS."""
    if not is_row(thing, 3, 3) or not is_from_to(thing[0], -HIGHEST, HIGHEST):
        return False
    return is_from_to(thing[1], thing[0], HIGHEST) and is_from_to(thing[2], 0, MOST_BREATH)


def check_players(thing):
    """Refuses any value that is no PLAYERS."""
    if not is_row(thing, 1, MOST_PLAYERS):
        raise BadPlayers(None)
    for number, player in enumerate(thing):
        if not is_player(player):
            raise BadPlayers(number)


def shifted(players, ends, ticks):
    """ENDS counted from so many ticks later on, where they are looked at."""
    return tuple([max(end - ticks, -breath) for end, (_, _, breath) in zip(ends, players)])


def ends_behind(players, ends, pitch, long):
    """Who can play an EVENT that begins now, and the ENDS behind: a list of (number of the player, ENDS)."""
    found = []
    for number, (low, high, breath) in enumerate(players):
        if low <= pitch <= high and ends[number] + breath <= 0:
            found.append((number, ends[:number] + (long,) + ends[number + 1:]))
    return found


class Sharing:
    """A SCORE that PLAYERS share; ways that are known are gone once."""

    def __init__(self, score, players):
        self.signs = score
        self.players = players
        self.lengths = lengths_of(score)
        self.known = {}

    def behind(self, state):
        """The REST STATES behind the SCORE, ascending, if one is ahead of it."""
        ends = (tuple([-rest for rest in state]),)
        return tuple(sorted([tuple([-end for end in one]) for one in self.walk(top_of(self.signs), ends)]))

    def walk(self, varied, ends):
        """All ENDS behind a VARIED SIGN, ascending, that come of some ENDS ahead."""
        if (varied, ends) not in self.known:
            if self.signs[varied[0]][0] == "block":
                made = self.walk_block(varied, ends)
            else:
                made = ends
                for part, many in parts_of(self.signs, varied):
                    made = self.walk_times(part, many, made)
            self.known[(varied, ends)] = made
        return self.known[(varied, ends)]

    def walk_times(self, varied, many, ends):
        """The same of so many times."""
        rows, places = [ends], {ends: 0}
        while len(rows) <= many:
            made = self.walk(varied, rows[-1])
            if made in places:
                # From here on the same ENDS come again, round by round.
                start = places[made]
                return rows[start + (many - start) % (len(rows) - start)]
            places[made] = len(rows)
            rows.append(made)
        return rows[many]

    def walk_block(self, varied, ends):
        """The same of a block."""
        tick, made = 0, {one: True for one in ends}
        for begin, pitch, long in self.block_notes(varied):
            following = {}
            for one in made:
                for _, behind in ends_behind(self.players, shifted(self.players, one, begin - tick), pitch, long):
                    following[behind] = True
            tick, made = begin, following
        length = self.lengths[varied[0]] * varied[4]
        return tuple(sorted({shifted(self.players, one, length - tick) for one in made}))

    def block_notes(self, varied):
        """(begin, PITCH, LONG) of all EVENTS with a PITCH of a block, ascending."""
        notes = []
        for voice in range(voice_count(self.signs)):
            begin = 0
            for pitch, long in block_events(self.signs, varied, voice):
                if pitch is not None:
                    notes.append((begin, pitch, long))
                begin += long
        return sorted(notes)


def all_notes(score):
    """(begin, VOICE, number in it, PITCH, end) of all EVENTS with a PITCH of a SHORT SCORE, ascending."""
    notes = []
    for voice in range(voice_count(score)):
        for number, (pitch, begin, end) in enumerate(notes_read(score, voice)):
            notes.append((begin, voice, number, pitch, end))
    return sorted(notes)


def share_all(score, players):
    """A SHARING of a SHORT SCORE, or None."""
    tick, notes = 0, all_notes(score)
    # For each EVENT all ENDS behind it that can be, each with the player and the ENDS ahead by which it came.
    rows = [{tuple([-breath for _, _, breath in players]): None}]
    for begin, _, _, pitch, end in notes:
        following = {}
        for one in rows[-1]:
            ahead = shifted(players, one, begin - tick)
            for player, behind in ends_behind(players, ahead, pitch, end - begin):
                following.setdefault(behind, (player, one))
        rows.append(following)
        tick = begin
    if not rows[-1]:
        return None
    shares = [{} for _ in range(voice_count(score))]
    ends = min(list(rows[-1]))
    for (_, voice, number, _, _), row in zip(notes[::-1], rows[::-1]):
        player, ends = row[ends]
        shares[voice][number] = player
    return tuple([tuple([share[number] for number in range(len(share))]) for share in shares])


def is_shared(score, players, thing):
    """Whether a value is a SHARING of a SHORT SCORE."""
    if not is_row(thing, voice_count(score), voice_count(score)):
        return False
    for voice, row in enumerate(thing):
        count = len(notes_read(score, voice))
        if not is_row(row, count, count) or not all([is_from_to(one, 0, len(players) - 1) for one in row]):
            return False
    free = [0] * len(players)
    for begin, voice, number, pitch, end in all_notes(score):
        player = thing[voice][number]
        low, high, breath = players[player]
        if not low <= pitch <= high or begin < free[player]:
            return False
        free[player] = end + breath
    return True

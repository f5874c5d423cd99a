"""Several players who share a score: how many there have to be, and whether their ranges and breath are enough."""

from tacthouse.crowds import crowd_of
from tacthouse.errors import BadState
from tacthouse.kinds import is_from_to, is_row
from tacthouse.scores import need_score, need_short
from tacthouse.sharings import Sharing, check_players, is_shared, share_all


def need_players(thing):
    """The value itself, if it is PLAYERS."""
    check_players(thing)
    return thing


def need_shared(score, players):
    """Refuses what is no SCORE, then what is no PLAYERS."""
    need_score(score)
    check_players(players)


def greatest_crowd(score):
    """The greatest CROWD, and the first tick at which it is."""
    return crowd_of(need_score(score))


def can_share(score, players):
    """Whether there is a SHARING."""
    need_shared(score, players)
    return bool(Sharing(score, players).behind(tuple([breath for _, _, breath in players])))


def is_rest_state(players, thing):
    """Whether a value is a REST STATE."""
    if not is_row(thing, len(players), len(players)):
        return False
    return all([is_from_to(rest, 0, breath) for rest, (_, _, breath) in zip(thing, players)])


def rests_behind(score, players, state):
    """The REST STATES behind the SCORE by all SHARINGS that begin with one, ascending."""
    need_shared(score, players)
    if not is_rest_state(players, state):
        raise BadState(state)
    return Sharing(score, players).behind(state)


def sharing(score, players):
    """A SHARING, or None."""
    need_shared(score, players)
    need_short(score)
    return share_all(score, players)


def is_sharing(score, players, value):
    """Whether a value is a SHARING."""
    need_shared(score, players)
    need_short(score)
    return is_shared(score, players, value)

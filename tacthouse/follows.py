"""Which rule between voices follows from which, and papers on that."""

from tacthouse.errors import BadPaper, BadRule, BadSounds
from tacthouse.kinds import is_worded
from tacthouse.lines import are_sounds
from tacthouse.moments import Looker
from tacthouse.pairings import Pairing
from tacthouse.rulings import few_faces, is_plain_for, is_rule
from tacthouse.situations import WIDEST

MOST_STATES = 3
MOST_EVENTS = 2000
WIDEST_SOUNDS = 1000


def is_fit(thing):
    """Whether a value is a RULE for one voice with few STATES, or a plain one for two."""
    if not is_rule(thing):
        return False
    return thing[0] == 1 and len(thing[1]) <= MOST_STATES or is_plain_for(thing, 2)


def pairing_of(rule, other):
    """Two RULES looked through together, if they are such."""
    if not is_fit(rule):
        raise BadRule(rule)
    if not is_fit(other) or other[0] != rule[0]:
        raise BadRule(other)
    return Pairing(rule, other, few_faces((rule, other)) if rule[0] == 2 else None)


def does_follow(rule, other):
    """Whether a RULE follows from another one."""
    return pairing_of(rule, other).counter() is None


def follow_paper(rule, other):
    """A PAPER on whether a RULE follows from another one."""
    pairing = pairing_of(rule, other)
    counter = pairing.counter()
    return ("follows", pairing.table()) if counter is None else ("not", counter)


def check_follow(rule, other, paper):
    """The first word of a PAPER that holds."""
    pairing = pairing_of(rule, other)
    if is_worded(paper, "follows", 2):
        if not does_table_hold(pairing, paper[1]):
            raise BadPaper("follows")
        return "follows"
    if not is_worded(paper, "not", 2):
        raise BadPaper("form")
    if not does_counter_hold(rule, other, paper[1]):
        raise BadPaper("not")
    return "not"


def does_table_hold(pairing, table):
    """Whether a value is a TABLE by which the one RULE follows from the other one."""
    if not isinstance(table, tuple) or not all([pairing.is_place(place) for place in table]):
        return False
    if not all([one < later for one, later in zip(table[:-1], table[1:])]):
        return False
    told = {place: True for place in table}
    if pairing.first() not in told:
        return False
    return all([place in told for one in table for _, place in pairing.steps(one)])


def does_counter_hold(rule, other, sounds):
    """Whether a value is SOUNDS by which the other RULE is kept, and the one is not."""
    if not are_sounds(sounds, rule[0], WIDEST if rule[0] == 1 else None):
        return False
    return Looker(other).is_kept_by(sounds) and not Looker(rule).is_kept_by(sounds)


def is_kept_by(rule, sounds):
    """Whether SOUNDS keep a RULE."""
    if not is_fit(rule):
        raise BadRule(rule)
    if not are_sounds(sounds, rule[0], WIDEST if rule[0] == 1 else WIDEST_SOUNDS) or not are_few(sounds):
        raise BadSounds(sounds)
    return Looker(rule).is_kept_by(sounds)


def are_few(sounds):
    """Whether SOUNDS have not too many EVENTS, and none that is too long."""
    longs = [long for line in sounds for _, long in line]
    return len(longs) <= MOST_EVENTS and max(longs) <= 1000

"""Rules between voices: which values are such, which are plain, and which differences of two voices they tell apart."""

from tacthouse.errors import BadRule, TooMany
from tacthouse.faces import faces_by
from tacthouse.kinds import is_ascending_to, is_from_to, is_row

MOST_VOICES = 4
MOST_FACES = 12
FARTHEST = 120
SIZES = {"sounds": 2, "silent": 2, "begins": 2, "pitch": 4, "apart": 5, "class": 4, "step": 4}


def is_stretch(low, high):
    """Whether two values can be LOW and HIGH."""
    return is_from_to(low, -FARTHEST, FARTHEST) and is_from_to(high, low, FARTHEST)


def is_test_part(thing, voices):
    """Whether a value can stand in a TEST for so many voices."""
    if not isinstance(thing, tuple) or len(thing) < 2 or not isinstance(thing[0], str):
        return False
    word = thing[0]
    if len(thing) != SIZES.get(word, 0) or not is_from_to(thing[1], 0, voices - 1):
        return False
    if word in ("apart", "class") and (not is_from_to(thing[2], 0, voices - 1) or thing[2] == thing[1]):
        return False
    if word == "class":
        return is_ascending_to(thing[3], 0, 11)
    return len(thing) == 2 or is_stretch(thing[-2], thing[-1])


def is_trial(thing, voices):
    """Whether a value is a TEST for so many voices."""
    return is_row(thing, 0, 4) and all([is_test_part(part, voices) for part in thing])


def is_state(thing, voices, many):
    """Whether a value is one of so many STATES of a RULE."""
    if not is_row(thing, 1, 5) or not all([is_triple(triple, voices, many) for triple in thing]):
        return False
    return thing[-1][0] == ()


def is_triple(thing, voices, many):
    """Whether a value is a triple of one of so many STATES."""
    if not is_row(thing, 3, 3) or not is_trial(thing[0], voices):
        return False
    return is_from_to(thing[1], 0, many - 1) and is_from_to(thing[2], 0, 1)


def is_rule(thing):
    """Whether a value is a RULE."""
    if not is_row(thing, 2, 2) or not is_from_to(thing[0], 1, MOST_VOICES) or not is_row(thing[1], 1, 6):
        return False
    return all([is_state(state, thing[0], len(thing[1])) for state in thing[1]])


def trial_parts(rule):
    """All that stands in any TEST of a RULE."""
    return [part for state in rule[1] for trial, _, _ in state for part in trial]


def has_word(rule, words):
    """Whether one of some words stands in a TEST of a RULE."""
    return any([part[0] in words for part in trial_parts(rule)])


def is_plain_for(thing, voices):
    """Whether a value is a plain RULE for so many voices."""
    return is_rule(thing) and thing[0] == voices and not has_word(thing, ("pitch", "step"))


def need_rule(rule):
    """The value itself, if it is a RULE."""
    if not is_rule(rule):
        raise BadRule(rule)
    return rule


def is_plain(rule):
    """Whether a RULE is plain."""
    return not has_word(need_rule(rule), ("pitch", "step"))


def few_faces(rules):
    """The FACES of plain RULES for two voices, ascending, if there are not too many."""
    faces = faces_by([part for rule in rules for part in trial_parts(rule)])
    if len(faces) > MOST_FACES:
        raise TooMany(MOST_FACES)
    return faces


def faces_of(rule, other):
    """The FACES of two RULES, ascending."""
    for given in (rule, other):
        if not is_plain_for(given, 2):
            raise BadRule(given)
    return tuple(few_faces((rule, other)))

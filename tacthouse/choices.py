"""Scores with choices: how few faults there can be, whatever is chosen at each place."""

from tacthouse.errors import BadChoices, BadRule, TooMany
from tacthouse.kinds import is_from_to, is_row
from tacthouse.least import cheaper, cost_behind, cost_of, cost_times, no_cost
from tacthouse.moments import Looker
from tacthouse.rulings import has_word, is_rule
from tacthouse.scores import need_score, voice_count
from tacthouse.signs import lengths_of
from tacthouse.varied import MOST_ASKED, block_events, parts_of, top_of


def are_choices(score, thing):
    """Whether a value is CHOICES for a SCORE."""
    if not isinstance(thing, tuple):
        return False
    lengths, least = lengths_of(score), 0
    for pair in thing:
        if not is_row(pair, 2, 2) or not is_from_to(pair[0], least, len(score) - 1):
            return False
        if not is_from_to(pair[1], 0, pair[0] - 1) or lengths[pair[0]] != lengths[pair[1]]:
            return False
        least = pair[0] + 1
    return True


def need_chosen(score, choices, rule):
    """Refuses what is no SCORE, no CHOICES for it, no RULE that looks at it without what was ahead."""
    need_score(score)
    if not are_choices(score, choices):
        raise BadChoices(choices)
    if not is_rule(rule) or rule[0] != voice_count(score) or has_word(rule, ("step",)):
        raise BadRule(rule)


def instead_of(instead, varied):
    """What may be asked for in the place of a VARIED SIGN: a list of one, or of none."""
    return [(instead[varied[0]],) + varied[1:]] if varied[0] in instead else []


def chosen_levels(score, instead):
    """For each SIGN the VARIED SIGNS with its number that are asked for by any choice."""
    levels = [{} for _ in score]
    levels[-1][top_of(score)] = True
    for number in reversed(range(len(score))):
        for varied in list(levels[number]):
            for part in [part for part, _ in parts_of(score, varied)] + instead_of(instead, varied):
                levels[part[0]][part] = True
        if sum([len(level) for level in levels]) > MOST_ASKED:
            raise TooMany(MOST_ASKED)
    return levels


def least_faults(score, choices, rule):
    """The LEAST FAULTS."""
    need_chosen(score, choices, rule)
    instead = {number: other for number, other in choices}
    looker, costs = Looker(rule), {}
    for level in chosen_levels(score, instead):
        for varied in level:
            cost = cost_as_told(score, looker, costs, varied)
            for other in instead_of(instead, varied):
                cost = cheaper(cost, costs[other])
            costs[varied] = cost
    return min([faults for faults in costs[top_of(score)][0] if faults is not None])


def cost_as_told(score, looker, costs, varied):
    """The COST of a VARIED SIGN itself, its parts having theirs."""
    if score[varied[0]][0] == "block":
        voices = range(voice_count(score))
        lines = [block_events(score, varied, voice) for voice in voices]
        return cost_of(looker.change_over(lines, (None,) * len(lines)))
    cost = no_cost(len(looker.states))
    for part, many in parts_of(score, varied):
        cost = cost_behind(cost, cost_times(costs[part], many))
    return cost


def can_be_kept(score, choices, rule):
    """Whether the LEAST FAULTS are none."""
    return least_faults(score, choices, rule) == 0

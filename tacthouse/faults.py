"""Scores looked through by a rule: faults, states, and papers on whether it is kept."""

from tacthouse.errors import BadNumber, BadPaper, BadRule
from tacthouse.kinds import is_from_to, is_worded
from tacthouse.looks import Look
from tacthouse.rulings import is_rule
from tacthouse.scores import need_score, voice_count
from tacthouse.signs import lengths_of
from tacthouse.ways import are_ways_kept, kept_rows


def need_ruled(score, rule):
    """Refuses what is no SCORE, then what is no RULE for as many voices."""
    need_score(score)
    if not is_rule(rule) or rule[0] != voice_count(score):
        raise BadRule(rule)


def look_through(score, rule):
    """A SCORE looked through by a RULE, if both are such."""
    need_ruled(score, rule)
    return Look(score, rule)


def state_ahead(score, rule, tick):
    """The STATE ahead of a tick."""
    need_ruled(score, rule)
    if not is_from_to(tick, 0, lengths_of(score)[-1]):
        raise BadNumber(tick)
    return Look(score, rule).ahead_of(tick)[0]


def many_faults(score, rule):
    """How many ticks are faults."""
    return look_through(score, rule).whole()[1]


def is_kept(score, rule):
    """Whether no tick is a fault."""
    return many_faults(score, rule) == 0


def fault_at(score, rule, number):
    """The tick that is the fault with this number."""
    look = look_through(score, rule)
    if not is_from_to(number, 0, look.whole()[1] - 1):
        raise BadNumber(number)
    return look.fault(number)


def kept_paper(score, rule):
    """A PAPER on whether a RULE is kept."""
    look = look_through(score, rule)
    return ("fault", look.fault(0)) if look.whole()[1] else ("kept", kept_rows(look))


def check_kept(score, rule, paper):
    """The first word of a PAPER that holds."""
    look = look_through(score, rule)
    if is_worded(paper, "kept", 2):
        if not are_ways_kept(look, paper[1]):
            raise BadPaper("kept")
        return "kept"
    if not is_worded(paper, "fault", 2):
        raise BadPaper("form")
    if not is_from_to(paper[1], 0, lengths_of(score)[-1] - 1) or not look.is_fault(paper[1]):
        raise BadPaper("fault")
    return "fault"

"""What a hand has to do at least for a voice that sounds again and again: round tables, least means, and papers."""

from tacthouse.errors import BadNumber, BadPaper, BadVoice
from tacthouse.fingers import Played, least_of, need_played
from tacthouse.kinds import is_from_to, is_integer, is_row, is_worded
from tacthouse.least import cost_behind, cost_times
from tacthouse.quotients import NOUGHT, is_fraction, is_less, minus, plus, reduced, whole

MOST_TIMES = 10 ** 30


class Again:
    """A VOICE with an EVENT with a PITCH, again and again by a hand on an INSTRUMENT."""

    def __init__(self, score, voice, instrument):
        need_played(score, voice, instrument)
        played = Played(score, voice, instrument)
        count, ahead, self.table, behind = played.whole()
        if not count:
            raise BadVoice(voice)
        self.turn = cost_behind(played.hand.way(behind + ahead), self.table)
        self.places = len(self.turn)

    def edges(self):
        """All (A, B, integer) that the ROUND TABLE has."""
        return [(one, other, price) for one, row in enumerate(self.turn) for other, price in enumerate(row)
                if price is not None]

    def rounds_from(self, places):
        """All ROUNDS that begin with these PLACES, and go on over greater ones than the first one."""
        found = [places] if self.turn[places[-1]][places[0]] is not None else []
        for place in range(places[0] + 1, self.places):
            if place not in places and self.turn[places[-1]][place] is not None:
                found.extend(self.rounds_from(places + (place,)))
        return found

    def mean(self, places):
        """The MEAN of a ROUND."""
        following = places[1:] + places[:1]
        return reduced(sum([self.turn[one][other] for one, other in zip(places, following)]), len(places))

    def best_round(self):
        """A ROUND with the LEAST MEAN, None if there is no ROUND."""
        best = None
        for start in range(self.places):
            for places in self.rounds_from((start,)):
                if best is None or is_less(self.mean(places), self.mean(best)):
                    best = places
        return best

    def is_round(self, thing):
        """Whether a value is a ROUND."""
        if not is_row(thing, 1, self.places) or not all([is_from_to(one, 0, self.places - 1) for one in thing]):
            return False
        if len(set(thing)) < len(thing):
            return False
        return all([self.turn[one][other] is not None for one, other in zip(thing, thing[1:] + thing[:1])])

    def bounds(self, mean):
        """For each PLACE the least of all sums of integers, each less the LEAST MEAN, on ways to it."""
        bounds = [NOUGHT] * self.places
        for _ in range(self.places):
            for one, other, price in self.edges():
                reached = plus(bounds[one], minus(whole(price), mean))
                if is_less(reached, bounds[other]):
                    bounds[other] = reached
        return tuple(bounds)

    def ranks(self):
        """For each PLACE how many steps the longest way to it has, there being no ROUND."""
        ranks = [0] * self.places
        for _ in range(self.places):
            for one, other, _ in self.edges():
                ranks[other] = max(ranks[other], ranks[one] + 1)
        return tuple(ranks)


def round_table(score, voice, instrument):
    """The ROUND TABLE."""
    return Again(score, voice, instrument).turn


def least_mean(score, voice, instrument):
    """The LEAST MEAN, or None."""
    again = Again(score, voice, instrument)
    best = again.best_round()
    return None if best is None else again.mean(best)


def again_price(score, voice, instrument, times):
    """The LEAST PRICE of a VOICE of the SCORE so many times, or None."""
    again = Again(score, voice, instrument)
    if not is_from_to(times, 1, MOST_TIMES):
        raise BadNumber(times)
    best = least_of(cost_behind(again.table, cost_times(again.turn, times - 1)))
    return None if best is None else best[0]


def mean_paper(score, voice, instrument):
    """A PAPER on the LEAST MEAN."""
    again = Again(score, voice, instrument)
    best = again.best_round()
    if best is None:
        return ("never", again.ranks())
    return ("mean", best, again.bounds(again.mean(best)))


def check_mean(score, voice, instrument, paper):
    """The first word of a PAPER that holds."""
    again = Again(score, voice, instrument)
    if is_worded(paper, "mean", 3):
        if not again.is_round(paper[1]) or not is_bounded(again, again.mean(paper[1]), paper[2]):
            raise BadPaper("mean")
        return "mean"
    if not is_worded(paper, "never", 2):
        raise BadPaper("form")
    if not is_ranked(again, paper[1]):
        raise BadPaper("never")
    return "never"


def is_bounded(again, mean, bounds):
    """Whether a value is BOUNDS by which no integer of the ROUND TABLE is less than told."""
    if not is_row(bounds, again.places, again.places) or not all([is_fraction(bound) for bound in bounds]):
        return False
    for one, other, price in again.edges():
        if is_less(whole(price), minus(plus(mean, bounds[other]), bounds[one])):
            return False
    return True


def is_ranked(again, ranks):
    """Whether a value is RANKS that rise wherever the ROUND TABLE has an integer."""
    if not is_row(ranks, again.places, again.places) or not all([is_integer(rank) for rank in ranks]):
        return False
    return all([ranks[one] < ranks[other] for one, other, _ in again.edges()])

"""Open games: which calls have an answer, the whole call being known ahead.

A lot of pairs (STATE, whether the voice 1 has a PITCH) is kept as the sum of 2 to the power of 2 STATE, plus 1 if so.
"""

from tacthouse.errors import BadCall, BadPaper, BadRule, TooMany
from tacthouse.kinds import is_from_to, is_row, is_worded
from tacthouse.moments import Looker
from tacthouse.rulings import has_word, is_plain_for
from tacthouse.situations import moment_of_two, words_for

MOST_LOTS = 2000
MOST_WORDS = 2000
FIRST_LOT = 1


def is_open(thing):
    """Whether a value is an open GAME."""
    return is_plain_for(thing, 2) and not has_word(thing, ("apart", "class"))


class Lots:
    """What can be behind CALLS of an open GAME."""

    def __init__(self, game):
        self.many = len(game[1])
        self.leads = self.leads_by(Looker(game))
        # For each (whether the voice 0 has a PITCH, lot) that can come the one ahead and the word; lots are not empty.
        self.ways = {(False, FIRST_LOT): None}
        # The first such, and the word, behind which nothing is left.
        self.end = None
        self.find_all()

    def leads_by(self, looker):
        """For each word of the voice 0 and each pair, by its number, the lot that comes of it without a fault."""
        leads = {}
        for word in ("on", "rest", "begin"):
            leads[word] = []
            for state in range(self.many):
                for does_sound in (False, True):
                    lot = 0
                    for answer in words_for(does_sound):
                        following, fault = looker.change(moment_of_two(word, answer, None))[state]
                        if not fault:
                            lot |= bit_of(following, answer != "rest")
                    leads[word].append(lot)
        return leads

    def lot_behind(self, lot, word):
        """The lot that comes of one without a fault."""
        behind = 0
        for number, lead in enumerate(self.leads[word]):
            if lot >> number & 1:
                behind |= lead
        return behind

    def find_all(self):
        """Goes through all that can come, unless it is too much."""
        waiting = [(False, FIRST_LOT)]
        while waiting:
            following = []
            for place in waiting:
                for word in words_for(place[0]):
                    behind = (word != "rest", self.lot_behind(place[1], word))
                    if behind[1] == 0:
                        self.end = self.end or (place, word)
                    elif behind not in self.ways:
                        self.ways[behind] = (place, word)
                        following.append(behind)
                if len(self.ways) > MOST_LOTS:
                    raise TooMany(MOST_LOTS)
            waiting = following

    def call_without(self):
        """A CALL without an answer, there being one."""
        place, word = self.end
        words = [word]
        while self.ways[place] is not None:
            place, word = self.ways[place]
            words.append(word)
        return tuple(words[::-1])

    def told(self, lot):
        """A lot as the tuple that it is kept for."""
        return tuple([(state, does_sound) for state in range(self.many) for does_sound in (False, True)
                      if lot & bit_of(state, does_sound)])

    def all_told(self):
        """The LOTS of a PAPER."""
        return tuple(sorted([(one, self.told(lot)) for one, lot in self.ways]))

    def lot_by(self, thing):
        """The lot that a tuple tells, 0 if a value is no LOT."""
        if not isinstance(thing, tuple):
            return 0
        lot = 0
        for pair in thing:
            if not is_row(pair, 2, 2) or not is_from_to(pair[0], 0, self.many - 1) or not isinstance(pair[1], bool):
                return 0
            bit = bit_of(pair[0], pair[1])
            if bit <= lot:
                return 0
            lot |= bit
        return lot

    def places_by(self, lots):
        """A list of (whether the voice 0 has a PITCH, lot) that LOTS tell; None if a value has not the form of LOTS."""
        if not isinstance(lots, tuple):
            return None
        places = []
        for row in lots:
            if not is_row(row, 2, 2) or not isinstance(row[0], bool) or not self.lot_by(row[1]):
                return None
            places.append((row[0], self.lot_by(row[1])))
        return places if all([one < later for one, later in zip(lots[:-1], lots[1:])]) else None

    def do_lots_hold(self, lots):
        """Whether a value is LOTS by which each CALL has an answer."""
        places = self.places_by(lots)
        if places is None or (False, FIRST_LOT) not in places:
            return False
        covered = {}
        for one in (False, True):
            covered[one] = self.with_more([lot for does_sound, lot in places if does_sound == one])
        for one, lot in places:
            for word in words_for(one):
                if not covered[word != "rest"][self.lot_behind(lot, word)]:
                    return False
        return True

    def with_more(self, lots):
        """For each lot whether one of some lots is within it."""
        size = 1 << 2 * self.many
        covered = [False] * size
        for lot in lots:
            covered[lot] = True
        for number in range(2 * self.many):
            for lot in range(size):
                if lot >> number & 1 and covered[lot - (1 << number)]:
                    covered[lot] = True
        return covered


def bit_of(state, does_sound):
    """The lot of one pair."""
    return 1 << 2 * state + (1 if does_sound else 0)


def need_open(game):
    """Refuses any value that is no open GAME."""
    if not is_open(game):
        raise BadRule(game)


def is_call(thing):
    """Whether a value is a CALL."""
    if not is_row(thing, 0, MOST_WORDS):
        return False
    does_sound = False
    for word in thing:
        if not isinstance(word, str) or word not in words_for(does_sound):
            return False
        does_sound = word != "rest"
    return True


def has_answer(lots, call):
    """Whether a CALL has an answer."""
    lot = FIRST_LOT
    for word in call:
        lot = lots.lot_behind(lot, word)
    return lot != 0


def is_answered(game, call):
    """Whether a CALL has an answer."""
    need_open(game)
    if not is_call(call):
        raise BadCall(call)
    return has_answer(Lots(game), call)


def are_all_answered(game):
    """Whether each CALL has an answer."""
    need_open(game)
    return Lots(game).end is None


def call_paper(game):
    """A PAPER on whether each CALL has an answer."""
    need_open(game)
    lots = Lots(game)
    return ("all", lots.all_told()) if lots.end is None else ("none", lots.call_without())


def check_call(game, paper):
    """The first word of a PAPER that holds."""
    need_open(game)
    lots = Lots(game)
    if is_worded(paper, "all", 2):
        if not lots.do_lots_hold(paper[1]):
            raise BadPaper("all")
        return "all"
    if not is_worded(paper, "none", 2):
        raise BadPaper("form")
    if not is_call(paper[1]) or has_answer(lots, paper[1]):
        raise BadPaper("none")
    return "none"

"""What a player's hand has to do at least for a voice on an instrument: fingerings, prices, and papers on the least."""

from tacthouse.errors import BadFingering, BadNumber, BadPaper
from tacthouse.fingers import Hand, Played, check_instrument, least_of, need_played
from tacthouse.kinds import is_from_to, is_integer, is_row, is_worded
from tacthouse.scores import need_short, notes_read


def need_instrument(thing):
    """The value itself, if it is an INSTRUMENT."""
    check_instrument(thing)
    return thing


def least_price(score, voice, instrument):
    """The LEAST PRICE, or None."""
    need_played(score, voice, instrument)
    count, _, table, _ = Played(score, voice, instrument).whole()
    if not count:
        return 0
    best = least_of(table)
    return None if best is None else best[0]


def price_table(score, voice, instrument):
    """The TABLE of a VOICE, None of one without EVENTS with a PITCH."""
    need_played(score, voice, instrument)
    return Played(score, voice, instrument).whole()[2]


def place_at(score, voice, instrument, number):
    """The PLACE of the EVENT with a PITCH of this number in a FINGERING with the LEAST PRICE, or None."""
    need_played(score, voice, instrument)
    played = Played(score, voice, instrument)
    if not is_from_to(number, 0, played.whole()[0] - 1):
        raise BadNumber(number)
    return played.place_of(number)


class Notes:
    """The EVENTS with a PITCH of a VOICE of a SHORT SCORE, (PITCH, begin, end) each, played on an INSTRUMENT."""

    def __init__(self, score, voice, instrument):
        need_played(score, voice, instrument)
        need_short(score)
        self.hand = Hand(instrument)
        self.places = len(self.hand.sounds)
        self.notes = notes_read(score, voice)

    def can_play(self, number, place):
        """Whether an EVENT can be played at a PLACE."""
        return self.notes[number][0] in self.hand.sounds[place]

    def way(self, number):
        """The PRICES of going from the EVENT ahead of this one to this one."""
        return self.hand.way(self.notes[number][1] - self.notes[number - 1][2])

    def price(self, thing):
        """The PRICE of what may be a FINGERING, None if it is none."""
        if not is_row(thing, len(self.notes), len(self.notes)):
            return None
        total = 0
        for number, place in enumerate(thing):
            if not is_from_to(place, 0, self.places - 1) or not self.can_play(number, place):
                return None
            step = self.way(number)[thing[number - 1]][place] if number else 0
            if step is None:
                return None
            total += step
        return total

    def prices_to(self, number, place, ahead):
        """What an EVENT at a PLACE costs by each PLACE of the one ahead that it can come from, with that PLACE."""
        way, found = self.way(number), []
        for other, bound in enumerate(ahead):
            if bound is not None and way[other][place] is not None:
                found.append((bound + way[other][place], other))
        return found

    def bounds(self):
        """For each EVENT and each PLACE the least price up to there, or None."""
        rows = []
        for number in range(len(self.notes)):
            row = []
            for place in range(self.places):
                found = []
                if self.can_play(number, place):
                    found = self.prices_to(number, place, rows[-1]) if rows else [(0, place)]
                row.append(min(found)[0] if found else None)
            rows.append(tuple(row))
        return tuple(rows)

    def cheapest(self, bounds):
        """A FINGERING with the least price by bounds that are just the least prices; None if there is none."""
        if not bounds:
            return ()
        ends = [(bound, place) for place, bound in enumerate(bounds[-1]) if bound is not None]
        if not ends:
            return None
        places = [min(ends)[1]]
        for number in reversed(range(1, len(bounds))):
            places.append(min(self.prices_to(number, places[-1], bounds[number - 1]))[1])
        return tuple(places[::-1])

    def are_bounds(self, thing):
        """Whether a value is BOUNDS as told in a PAPER."""
        if not is_row(thing, len(self.notes), len(self.notes)):
            return False
        for number, row in enumerate(thing):
            if not is_row(row, self.places, self.places):
                return False
            if not all([self.is_bound(number, place, thing) for place in range(self.places)]):
                return False
        return True

    def is_bound(self, number, place, rows):
        """Whether what BOUNDS have for an EVENT and a PLACE can stand there, those of the EVENT ahead being such."""
        bound = rows[number][place]
        if bound is not None and (not is_integer(bound) or not self.can_play(number, place)):
            return False
        if not self.can_play(number, place):
            return True
        if number == 0:
            return bound is not None and bound <= 0
        found = self.prices_to(number, place, rows[number - 1])
        if not found:
            return True
        return bound is not None and bound <= min(found)[0]


def fingering(score, voice, instrument):
    """A FINGERING with the LEAST PRICE, or None."""
    notes = Notes(score, voice, instrument)
    return notes.cheapest(notes.bounds())


def is_fingering(score, voice, instrument, value):
    """Whether a value is a FINGERING."""
    return Notes(score, voice, instrument).price(value) is not None


def price_of(score, voice, instrument, fingering):
    """The PRICE of a FINGERING."""
    price = Notes(score, voice, instrument).price(fingering)
    if price is None:
        raise BadFingering(fingering)
    return price


def hand_paper(score, voice, instrument):
    """A PAPER on the LEAST PRICE."""
    notes = Notes(score, voice, instrument)
    bounds = notes.bounds()
    told = notes.cheapest(bounds)
    return ("none", bounds) if told is None else ("least", told, bounds)


def check_hand(score, voice, instrument, paper):
    """The first word of a PAPER that holds."""
    notes = Notes(score, voice, instrument)
    if is_worded(paper, "least", 3):
        if not is_least(notes, paper[1], paper[2]):
            raise BadPaper("least")
        return "least"
    if not is_worded(paper, "none", 2):
        raise BadPaper("form")
    if not notes.are_bounds(paper[1]) or last_bounds(paper[1]):
        raise BadPaper("none")
    return "none"


def last_bounds(bounds):
    """The integers that BOUNDS have at the last EVENT; 0 if there are no EVENTS."""
    return [bound for bound in bounds[-1] if bound is not None] if bounds else [0]


def is_least(notes, told, bounds):
    """Whether a value is a FINGERING whose PRICE is the least integer at the end of what are BOUNDS."""
    price = notes.price(told)
    if price is None or not notes.are_bounds(bounds):
        return False
    # A FINGERING has an integer at each of its PLACES, so there is one at the last EVENT.
    return price == min(last_bounds(bounds))

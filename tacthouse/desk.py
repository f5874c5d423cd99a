"""A desk: a score, a tempo and a playing that are led on by deeds, tried, and undone."""

from tacthouse.alike import first_parting
from tacthouse.deeds import deed_words, led_behind, read_deeds
from tacthouse.errors import BadDeed, BadNumber
from tacthouse.kinds import is_from_to
from tacthouse.matches import need_playing
from tacthouse.quotients import whole
from tacthouse.scores import need_score, need_voice
from tacthouse.signs import lengths_of
from tacthouse.slips import least_slips
from tacthouse.tempos import need_tempo, worth_at
from tacthouse.timed import heard_at
from tacthouse.varied import asked_of, parts_of, rising, top_of


class Desk:
    """A DESK; what it leads is LED as in tacthouse.deeds.

    PAST are pairs of a DEED and of what was LED ahead of it; neither is ever changed, only left for another one.
    """

    def __init__(self, score, tempo=((None, (1, 1)),), playing=None):
        need_score(score)
        need_tempo(tempo)
        if playing is not None:
            need_playing(playing)
        self.led = (score, tempo, playing)
        self.past = ()

    def __eq__(self, other):
        return isinstance(other, Desk) and self.led == other.led

    def __len__(self):
        return len(self.past)

    @property
    def score(self):
        """The SCORE that is led now."""
        return self.led[0]

    @property
    def tempo(self):
        """The TEMPO that is led now."""
        return self.led[1]

    @property
    def playing(self):
        """The PLAYING that is led now, or None."""
        return self.led[2]

    def do(self, deed):
        """Does a DEED."""
        led, place = led_behind(self.led, deed)
        if place is not None:
            raise BadDeed(place)
        self.past = self.past + ((deed, self.led),)
        self.led = led

    def run(self, text):
        """Does the DEEDS of a text in turn, all of them or none."""
        led, more = self.led, []
        for number, deed in enumerate(read_deeds(text)):
            following, place = led_behind(led, deed)
            if place is not None:
                raise BadDeed((number, place))
            more.append((deed, led))
            led = following
        self.past = self.past + tuple(more)
        self.led = led

    def undo(self, many=1):
        """Leads again what was led ahead of the last DEEDS, so many."""
        if not is_from_to(many, 1, len(self.past)):
            raise BadNumber(many)
        self.led = self.led_ahead(many)
        self.past = self.past[:len(self.past) - many]

    def led_ahead(self, many):
        """What was LED ahead of the last DEEDS, so many, perhaps none."""
        return self.past[len(self.past) - many][1] if many else self.led

    def deeds(self):
        """The DEEDS that were done and not undone, in turn."""
        return tuple([deed for deed, _ in self.past])

    def text(self):
        """Their text."""
        return "\n".join([" ".join(deed_words(deed)) for deed, _ in self.past])

    def length(self):
        """The LENGTH of the SCORE."""
        return lengths_of(self.score)[-1]

    def lasts(self):
        """How many SECONDS the SCORE lasts."""
        return worth_at(self.tempo, whole(self.length()))

    def heard(self, second):
        """What is heard at a SECOND."""
        return heard_at(self.score, second, self.tempo)

    def first_use(self, number):
        """The tick at which the SIGN with this number is first used, or None."""
        if not is_from_to(number, 0, len(self.score) - 1):
            raise BadNumber(number)
        return first_uses(self.score).get(number)

    def slips(self, voice):
        """The LEAST SLIPS of the PLAYING in a VOICE; None if there is no PLAYING, or no EVENT with a PITCH."""
        need_voice(self.score, voice)
        return None if self.playing is None else least_slips(self.score, voice, self.playing)

    def parting(self, many=1):
        """Where the SCORE that was led ahead of the last DEEDS, so many, parts from the one that is led now."""
        if not is_from_to(many, 0, len(self.past)):
            raise BadNumber(many)
        return first_parting(self.led_ahead(many)[0], self.score)

    def copy(self):
        """A DESK that leads the same, and goes on by itself."""
        made = Desk(self.score)
        made.led = self.led
        made.past = self.past
        return made

    def trial(self):
        """An object for a with statement, behind which all is as it was ahead of it."""
        return Trial(self)


class Held:
    """What a DESK led, and its past, when a block began; and what a block around it holds."""

    def __init__(self, led, past, outer):
        self.led = led
        self.past = past
        self.outer = outer


class Trial:
    """Blocks in which a DESK is tried."""

    def __init__(self, desk):
        self.desk = desk
        self.held = None

    def __enter__(self):
        self.held = Held(self.desk.led, self.desk.past, self.held)
        return self.desk

    def __exit__(self, kind, value, trace):
        desk = self.desk
        desk.led = self.held.led
        desk.past = self.held.past
        self.held = self.held.outer


def first_uses(score):
    """A dict of the ticks at which SIGNS of a SCORE are first used, by their numbers."""
    lengths, begins, ticks = lengths_of(score), {top_of(score): 0}, {}
    for varied in reversed(rising(asked_of(score))):
        begin = begins[varied]
        ticks[varied[0]] = min(begin, ticks.get(varied[0], begin))
        for part, many in parts_of(score, varied):
            begins[part] = min(begin, begins.get(part, begin))
            begin += lengths[part[0]] * part[4] * many
    return ticks


def under(manager, deed):
    """What deed(one) returns, called in a with statement over a manager that gives this one; None if it ends it."""
    with manager as one:
        return deed(one)
    return None

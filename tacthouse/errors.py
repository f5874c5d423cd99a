"""The errors of the package: each one keeps, as its field, what was refused or where."""


class TactError(ValueError):
    """Any argument that is refused."""


class BadScore(TactError):
    """No SCORE: the number of the first bad sign, or None."""

    def __init__(self, place):
        self.place = place


class BadVoice(TactError):
    """No number of a voice."""

    def __init__(self, value):
        self.value = value


class BadTick(TactError):
    """No tick of the SCORE."""

    def __init__(self, value):
        self.value = value


class BadNumber(TactError):
    """No number that is wanted there."""

    def __init__(self, value):
        self.value = value


class BadFraction(TactError):
    """No FRACTION that is wanted there."""

    def __init__(self, value):
        self.value = value


class BadPaper(TactError):
    """No paper that holds: which part of it is not as told."""

    def __init__(self, place):
        self.place = place


class BadRing(TactError):
    """No RHYTHM."""

    def __init__(self, value):
        self.value = value


class BadTempo(TactError):
    """No TEMPO: the number of the first bad pair, or the word form."""

    def __init__(self, place):
        self.place = place


class BadVoices(TactError):
    """No lot of voices."""

    def __init__(self, value):
        self.value = value


class BadPaces(TactError):
    """No PACES of the SCORE."""

    def __init__(self, value):
        self.value = value


class OutOfScore(TactError):
    """A SECOND at which the SCORE is over."""

    def __init__(self, value):
        self.value = value


class BadLog(TactError):
    """No LOG: what the first bad part is."""

    def __init__(self, place):
        self.place = place


class BadMoment(TactError):
    """No MOMENT of the LOG."""

    def __init__(self, value):
        self.value = value


class BadClocks(TactError):
    """No CLOCKS."""

    def __init__(self, value):
        self.value = value


class BadMarks(TactError):
    """No MARKS of the SCORE."""

    def __init__(self, value):
        self.value = value


class BadRingers(TactError):
    """No RINGERS: the number of the first bad one, or the word form."""

    def __init__(self, place):
        self.place = place


class BadRinger(TactError):
    """No RINGER."""

    def __init__(self, value):
        self.value = value


class BadRule(TactError):
    """No RULE that is wanted there."""

    def __init__(self, value):
        self.value = value


class BadSounds(TactError):
    """No SOUNDS, or no line."""

    def __init__(self, value):
        self.value = value


class BadCall(TactError):
    """No CALL."""

    def __init__(self, value):
        self.value = value


class BadChoices(TactError):
    """No CHOICES for the SCORE."""

    def __init__(self, value):
        self.value = value


class BadRound(TactError):
    """No ROUND of the SCORE."""

    def __init__(self, value):
        self.value = value


class BadGood(TactError):
    """No lot of good rests."""

    def __init__(self, value):
        self.value = value


class BadRow(TactError):
    """No ROW."""

    def __init__(self, value):
        self.value = value


class BadRatio(TactError):
    """No RATIO, or no RATIOS."""

    def __init__(self, value):
        self.value = value


class BadScale(TactError):
    """No SCALE."""

    def __init__(self, value):
        self.value = value


class BadTable(TactError):
    """No TABLE of RATIOS."""

    def __init__(self, value):
        self.value = value


class BadInstrument(TactError):
    """No INSTRUMENT: which part of it is not as told."""

    def __init__(self, place):
        self.place = place


class BadPlayers(TactError):
    """No PLAYERS: the number of the first bad one, or None."""

    def __init__(self, place):
        self.place = place


class BadFingering(TactError):
    """No FINGERING."""

    def __init__(self, value):
        self.value = value


class BadState(TactError):
    """No REST STATE."""

    def __init__(self, value):
        self.value = value


class BadPlaying(TactError):
    """No PLAYING."""

    def __init__(self, value):
        self.value = value


class BadGait(TactError):
    """No GAIT."""

    def __init__(self, value):
        self.value = value


class BadStart(TactError):
    """No start of the PLAYING."""

    def __init__(self, value):
        self.value = value


class BadText(TactError):
    """No text of such a thing: the place of its first fault, or None."""

    def __init__(self, place):
        self.place = place


class BadDeed(TactError):
    """No DEED that can be done: what is wrong with it."""

    def __init__(self, place):
        self.place = place


class NoTimes(LookupError):
    """No TIMES fit the LOG: a paper on that."""

    def __init__(self, paper):
        self.paper = paper


class TooMany(OverflowError):
    """More than the stated number is wanted."""

    def __init__(self, most):
        self.most = most

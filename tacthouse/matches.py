"""Playings, and how they are matched with the notes of a voice."""

from tacthouse.errors import BadPlaying
from tacthouse.kinds import is_from_to, is_row
from tacthouse.signs import HIGHEST

MOST_TIME = 10 ** 9
# How many pairs, and how many NOTES, each word goes through.
STEPS = {"same": (1, 1), "other": (1, 1), "more": (1, 0), "less": (0, 1)}


def is_playing(thing):
    """Whether a value is a PLAYING."""
    if not is_row(thing, 1, 8):
        return False
    least = 0
    for pair in thing:
        if not is_row(pair, 2, 2) or not is_from_to(pair[0], -HIGHEST, HIGHEST):
            return False
        if not is_from_to(pair[1], least, MOST_TIME):
            return False
        least = pair[1] + 1
    return True


def need_playing(playing):
    """Refuses any value that is no PLAYING."""
    if not is_playing(playing):
        raise BadPlaying(playing)


def pitches_of(playing):
    """The PITCHES of a PLAYING."""
    return tuple([pitch for pitch, _ in playing])


def most_notes(playing):
    """How many NOTES a MATCH with as few SLIPS as any has at most."""
    return 2 * len(playing) - 1


class Matching:
    """All MATCHES of the PITCHES of a PLAYING with those of some NOTES, from the first one on."""

    def __init__(self, played, heard):
        self.played = played
        self.heard = heard
        # For so many pairs and so many NOTES how few SLIPS there can be, None if they cannot be gone through.
        self.rows = []
        for pairs in range(len(played) + 1):
            self.rows.append([])
            for notes in range(len(heard) + 1):
                found = self.ways(pairs, notes)
                self.rows[-1].append(min(found)[0] if found else None)

    def ways(self, pairs, notes):
        """(SLIPS, last word) of each way through so many pairs and NOTES; the lesser ones are known."""
        if pairs == 0:
            # "less" is no first word.
            return [(0, "")] if notes == 0 else []
        found = [(self.rows[pairs - 1][notes], 1, "more")]
        if notes:
            are_same = self.played[pairs - 1] == self.heard[notes - 1]
            found.append((self.rows[pairs - 1][notes - 1], 0 if are_same else 1, "same" if are_same else "other"))
            found.append((self.rows[pairs][notes - 1], 1, "less"))
        return [(slips + cost, word) for slips, cost, word in found if slips is not None]

    def best(self):
        """(SLIPS, last word, how many NOTES) of a MATCH with as few SLIPS as any, there being a NOTE."""
        pairs, found = len(self.played), []
        for notes in range(1, len(self.heard) + 1):
            found.extend([(slips, word, notes) for slips, word in self.ways(pairs, notes) if word != "less"])
        return min(found)

    def match(self):
        """A MATCH with as few SLIPS as any."""
        _, word, notes = self.best()
        pairs, words = len(self.played), []
        while word:
            words.append(word)
            pairs, notes = pairs - STEPS[word][0], notes - STEPS[word][1]
            _, word = min(self.ways(pairs, notes))
        return tuple(words[::-1])


class SlipJudge:
    """Tells of NOTES how few SLIPS a PLAYING has from the first one on."""

    def __init__(self, playing):
        self.played = pitches_of(playing)
        self.known = {}

    def judged(self, notes):
        """How few SLIPS; of the same PITCHES this is worked out once."""
        heard = tuple([pitch for _, pitch in notes])
        if heard not in self.known:
            self.known[heard] = Matching(self.played, heard).best()[0]
        return self.known[heard]


def are_words(thing):
    """Whether a value is a tuple of words of a MATCH, the first one and the last one being no "less"."""
    if not isinstance(thing, tuple) or not thing:
        return False
    if not all([isinstance(word, str) and word in STEPS for word in thing]):
        return False
    return thing[0] != "less" and thing[-1] != "less"


def slips_by(reading, playing, note, thing):
    """The SLIPS of a MATCH from a NOTE on, in what a VOICE reads as; None of any other value."""
    if not are_words(thing):
        return None
    pair, at, slips = 0, note, 0
    for word in thing:
        pairs, notes = STEPS[word]
        if pair + pairs > len(playing) or at + notes > reading.note_total():
            return None
        if pairs and notes and (playing[pair][0] == reading.note(at)[0]) != (word == "same"):
            return None
        pair, at = pair + pairs, at + notes
        slips += 0 if word == "same" else 1
    return slips if pair == len(playing) and at > note else None

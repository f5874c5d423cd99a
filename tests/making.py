"""Scores for tests, made by a fixed row of numbers: the same ones in each run."""

from tests import plain


class Numbers:
    """Numbers that look as if by chance, always the same ones behind one start."""

    def __init__(self, start):
        self.state = start * 2654435761 % 2 ** 64 + 12345

    def below(self, many):
        self.state = (self.state * 6364136223846793005 + 1442695040888963407) % 2 ** 64
        return (self.state >> 33) % many

    def one_of(self, things):
        return things[self.below(len(things))]


def row(numbers, length, pitches=3):
    """A ROW of this LENGTH, at most 12."""
    made = []
    while length:
        long = min(length, 1 + numbers.below(3))
        made.append((None if numbers.below(3) == 0 else numbers.below(pitches), long))
        length -= long
    return tuple(made)


def block(numbers, voices):
    length = 1 + numbers.below(6)
    return ("block", tuple(row(numbers, length) for _ in range(voices)))


WORDS = ("block", "then", "again", "up", "turned", "back", "slow", "ends")


def sign(numbers, many, voices):
    word = numbers.one_of(WORDS) if many else "block"
    part = numbers.below(many) if many else 0
    if word == "block":
        return block(numbers, voices)
    if word == "then":
        return (word, part, numbers.below(many))
    if word == "again":
        return (word, part, 1 + numbers.below(4))
    if word == "up":
        return (word, part, numbers.below(7) - 3)
    if word == "slow":
        return (word, part, 2 + numbers.below(2))
    if word == "ends":
        return (word, part, tuple(numbers.below(many) for _ in range(1 + numbers.below(3))))
    return (word, part)


def score(numbers, voices, signs, most=150):
    """A SCORE of so many voices, with so many SIGNS at most, of at most so many ticks."""
    made = [block(numbers, voices)]
    for _ in range(signs * 3):
        if len(made) == signs:
            break
        trial = tuple(made) + (sign(numbers, len(made), voices),)
        longest = max(long for voice in range(voices) for _, long in plain.events(trial, voice))
        if plain.length(trial) <= most and longest <= 96:
            made = list(trial)
    return tuple(made)

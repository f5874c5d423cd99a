"""Texts, gone through word by word: lines, words, numbers, and what stands in texts of several kinds."""

from tacthouse.errors import BadText

# How many numbers stand behind each word of a SIGN.
NUMBERS = {"then": 2, "again": 2, "up": 2, "turned": 1, "back": 1, "slow": 2}
FIGURES = "0123456789"
MOST_FIGURES = 60


def is_number(word):
    """Whether a word is a number."""
    figures = word[1:] if word.startswith("-") else word
    if not 1 <= len(figures) <= MOST_FIGURES or not all([figure in FIGURES for figure in figures]):
        return False
    return figures[0] != "0" or word == "0"


def halves_of(word, sign):
    """What stands in a word ahead of a sign, and behind it; None, None if it is not there just once."""
    parts = word.split(sign)
    return (parts[0], parts[1]) if len(parts) == 2 else (None, None)


class Reader:
    """A text; what cannot stand where it does is refused with its place."""

    def __init__(self, given):
        if not isinstance(given, str):
            raise BadText(None)
        self.rows = [row.split(" ") for row in given.split("\n")]
        self.row = 0
        self.at = 0

    def refuse(self):
        """Refuses the next word, or that there is none."""
        raise BadText((self.row, self.at))

    def has_row(self):
        """Whether there is a further line, or what is left of one."""
        return self.row < len(self.rows)

    def has_word(self):
        """Whether there is a further word in this line."""
        return self.has_row() and self.at < len(self.rows[self.row])

    def peek(self):
        """The next word in this line, None if there is none."""
        return self.rows[self.row][self.at] if self.has_word() else None

    def take(self, words):
        """The next word, which has to be one of some."""
        word = self.peek()
        if word not in words:
            self.refuse()
        self.at += 1
        return word

    def end_row(self):
        """Goes on to the next line; in this one there has to be no further word."""
        if self.has_word():
            self.refuse()
        self.row += 1
        self.at = 0

    def end(self):
        """Refuses a further line."""
        if self.has_row():
            self.refuse()

    def number(self):
        """The next word, which has to be a number, as this."""
        word = self.peek()
        if word is None or not is_number(word):
            self.refuse()
        self.at += 1
        return int(word)

    def numbers(self, least):
        """All further words of this line, which have to be numbers, so many at least."""
        found = [self.number() for _ in range(least)]
        while self.has_word():
            found.append(self.number())
        return tuple(found)

    def pair(self, sign, nothing):
        """The next word as two numbers around a sign; the word nothing, if it is told, may stand ahead, for None."""
        word = self.peek()
        if word is None:
            self.refuse()
        left, right = halves_of(word, sign)
        if left is None or not is_number(right) or left != nothing and not is_number(left):
            self.refuse()
        self.at += 1
        return (None if left == nothing else int(left), int(right))

    def quotient(self):
        """The next word, which has to be a quotient."""
        top, bottom = self.pair("/", None)
        if bottom < 1:
            self.at -= 1
            self.refuse()
        return (top, bottom)


def event_word(event):
    """The word of an EVENT."""
    pitch, long = event
    return f"-:{long}" if pitch is None else f"{pitch}:{long}"


def block_words(block):
    """The words of a BLOCK."""
    words = []
    for row in block:
        words.extend((["|"] if words else []) + [event_word(event) for event in row])
    return words


def sign_words(sign):
    """The words of a SIGN."""
    if sign[0] == "block":
        return ["block"] + block_words(sign[1])
    numbers = (sign[1],) + sign[2] if sign[0] == "ends" else sign[1:]
    return [sign[0]] + [str(number) for number in numbers]


def read_sign(reader):
    """The SIGN that the rest of a line tells."""
    word = reader.take(("block", "then", "again", "up", "turned", "back", "slow", "ends"))
    if word == "block":
        return ("block", read_rows(reader))
    if word == "ends":
        part = reader.number()
        return ("ends", part, reader.numbers(1))
    return (word,) + tuple([reader.number() for _ in range(NUMBERS[word])])


def read_rows(reader):
    """The ROWS that the rest of a line tells."""
    rows = []
    while not rows or reader.has_word():
        if rows:
            reader.take(("|",))
        row = [reader.pair(":", "-")]
        while reader.has_word() and reader.peek() != "|":
            row.append(reader.pair(":", "-"))
        rows.append(tuple(row))
    return tuple(rows)


def pair_words(pair):
    """The two words of a pair of a TEMPO."""
    long, rate = pair
    return ["on" if long is None else f"{long[0]}/{long[1]}", f"{rate[0]}/{rate[1]}"]


def read_pair(reader):
    """The pair of a TEMPO that the next two words tell."""
    if reader.peek() == "on":
        reader.take(("on",))
        return (None, reader.quotient())
    long = reader.quotient()
    return (long, reader.quotient())


def stroke_word(pair):
    """The word of a pair of a PLAYING."""
    return f"{pair[0]}@{pair[1]}"

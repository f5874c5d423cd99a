"""Plain readings of the document, for short scores: everything is written out event by event, tick by tick."""


def read(score, number, voice):
    """The EVENTS that a SIGN reads as in a VOICE, by the words of [102]."""
    sign = score[number]
    word = sign[0]
    if word == "block":
        return list(sign[1][voice])
    inner = read(score, sign[1], voice)
    if word == "then":
        return inner + read(score, sign[2], voice)
    if word == "again":
        return inner * sign[2]
    if word == "up":
        return [(None if p is None else p + sign[2], long) for p, long in inner]
    if word == "turned":
        return [(None if p is None else -p, long) for p, long in inner]
    if word == "back":
        return inner[::-1]
    if word == "slow":
        return [(p, long * sign[2]) for p, long in inner]
    row = []
    for end in sign[2]:
        row += inner + read(score, end, voice)
    return row


def voices(score):
    return len(score[0][1])


def events(score, voice):
    return read(score, len(score) - 1, voice)


def length(score, number=-1):
    return sum(long for _, long in read(score, number % len(score), 0))


def word(score, voice):
    row = []
    for pitch, long in events(score, voice):
        if row and pitch is None and row[-1][0] is None:
            row[-1] = (None, row[-1][1] + long)
        else:
            row.append((pitch, long))
    return tuple(row)


def sounds(score, voice):
    """The SOUND at each tick."""
    heard = []
    for pitch, long in events(score, voice):
        heard.append((pitch, pitch is not None))
        heard.extend([(pitch, False)] * (long - 1))
    return heard


def begins(score, voice):
    """The ticks at which EVENTS with a PITCH begin."""
    return [tick for tick, (_, begin) in enumerate(sounds(score, voice)) if begin]


def heard(score, voice, tick):
    """(PITCH, AGO, STILL) by the WORD."""
    begin = 0
    for pitch, long in word(score, voice):
        if begin + long > tick:
            return (pitch, tick - begin, begin + long - tick)
        begin += long


def asked(score):
    """How often each VARIED SIGN is used, by the words of [103]."""
    counts = {}

    def ask(number, up, turned, back, slow):
        key = (number, up, turned, back, slow)
        counts[key] = counts.get(key, 0) + 1
        sign = score[number]
        word = sign[0]
        if word == "then":
            ask(sign[1], up, turned, back, slow)
            ask(sign[2], up, turned, back, slow)
        elif word == "again":
            for _ in range(sign[2]):
                ask(sign[1], up, turned, back, slow)
        elif word == "up":
            ask(sign[1], up - sign[2] if turned else up + sign[2], turned, back, slow)
        elif word == "turned":
            ask(sign[1], up, not turned, back, slow)
        elif word == "back":
            ask(sign[1], up, turned, not back, slow)
        elif word == "slow":
            ask(sign[1], up, turned, back, slow * sign[2])
        elif word == "ends":
            for end in sign[2]:
                ask(sign[1], up, turned, back, slow)
                ask(end, up, turned, back, slow)

    ask(len(score) - 1, 0, False, False, 1)
    return tuple(sorted(counts.items()))


def parting(one, other):
    """The pair of first_parting, tick by tick."""
    if voices(one) != voices(other):
        return (0, min(voices(one), voices(other)))
    rows = [[sounds(score, voice) for voice in range(voices(score))] for score in (one, other)]
    for tick in range(max(length(one), length(other))):
        if (tick >= length(one)) != (tick >= length(other)):
            return (tick, None)
        for voice in range(voices(one)):
            if rows[0][voice][tick] != rows[1][voice][tick]:
                return (tick, voice)
    return None


def lap(words, made, fresh):
    """One LAP on two lists of letters, which are numbers below fresh; the lists behind it, and the next fresh number."""
    if made[0] == "runs":
        keyed = []
        for letters in words:
            row = []
            for letter in letters:
                if row and row[-1][0] == letter:
                    row[-1] = (letter, row[-1][1] + 1)
                else:
                    row.append((letter, 1))
            keyed.append([key if key[1] > 1 else key[0] for key in row])
    else:
        left = set(made[1])
        keyed = []
        for letters in words:
            row, at = [], 0
            while at < len(letters):
                if at + 1 < len(letters) and letters[at] in left and letters[at + 1] not in left:
                    row.append((letters[at], letters[at + 1]))
                    at += 2
                else:
                    row.append(letters[at])
                    at += 1
            keyed.append(row)
    found = sorted({key for row in keyed for key in row if isinstance(key, tuple)})
    numbers = {key: fresh + at for at, key in enumerate(found)}
    return [[numbers.get(key, key) for key in row] for row in keyed], fresh + len(found)


def laps_join(one, other, laps):
    """Whether LAPS make two WORDS one and the same single letter."""
    letters = sorted(set(one) | set(other), key=lambda pair: (pair[0] is not None, pair if pair[0] is not None else pair[1]))
    words, fresh = [[letters.index(pair) for pair in row] for row in (one, other)], len(letters)
    for made in laps:
        words, fresh = lap(words, made, fresh)
    return words[0] == words[1] and len(words[0]) == 1


def holds(one, other, paper):
    """Whether a PAPER of [111] holds, both scores being short."""
    if paper[0] == "alike":
        if voices(one) != voices(other) or len(paper[1]) != voices(one):
            return False
        return all(laps_join(word(one, v), word(other, v), laps) for v, laps in enumerate(paper[1]))
    _, tick, voice = paper
    low, high = sorted((voices(one), voices(other)))
    if low != high:
        return tick == 0 and voice in range(low, high)
    if (tick >= length(one)) != (tick >= length(other)):
        return tick >= 0 and voice is None
    if not 0 <= tick < length(one) or voice not in range(low):
        return False
    return sounds(one, voice)[tick] != sounds(other, voice)[tick]

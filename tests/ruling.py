"""Rules for tests, made by a fixed row of numbers, and a plain look by them, tick by tick."""

from tests import plain

WORDS = {1: ("sounds", "silent", "begins", "pitch", "step"),
         2: ("sounds", "silent", "begins", "pitch", "step", "apart", "class")}
PLAIN = ("sounds", "silent", "begins", "apart", "class")
OPEN = ("sounds", "silent", "begins")


def stretch(numbers, widest=4):
    low = numbers.below(2 * widest + 1) - widest
    return (low, low + numbers.below(widest + 1))


def test_part(numbers, voices, words):
    word = numbers.one_of(words)
    voice = numbers.below(voices)
    other = (voice + 1 + numbers.below(voices - 1)) % voices if voices > 1 else None
    if word in ("pitch", "step"):
        return (word, voice) + stretch(numbers)
    if word == "apart":
        return (word, voice, other) + stretch(numbers)
    if word == "class":
        return (word, voice, other, tuple(rest for rest in range(12) if numbers.below(2)))
    return (word, voice)


def rule(numbers, voices, states, words=None, often=3, triples=3, parts=2):
    """A RULE; one triple in so many is a fault."""
    words = words or WORDS[min(voices, 2)]
    made = []
    for _ in range(states):
        rows = []
        for at in range(triples):
            parts_of = tuple(test_part(numbers, voices, words) for _ in range(1 + numbers.below(parts)))
            rows.append((parts_of if at < triples - 1 else (), numbers.below(states), int(numbers.below(often) == 0)))
        made.append(tuple(rows))
    return (voices, tuple(made))


def part_holds(part, now, last):
    """Whether it holds, now being (PITCH, whether one begins) of each voice, last the last PITCH that began ahead."""
    word, voice = part[:2]
    pitch, begins = now[voice]
    if word == "sounds":
        return pitch is not None
    if word == "silent":
        return pitch is None
    if word == "begins":
        return begins
    if word == "pitch":
        return pitch is not None and part[2] <= pitch <= part[3]
    if word == "step":
        return begins and last[voice] is not None and part[2] <= pitch - last[voice] <= part[3]
    other = now[part[2]][0]
    if pitch is None or other is None:
        return False
    if word == "apart":
        return part[3] <= pitch - other <= part[4]
    return (pitch - other) % 12 in part[3]


def tick(made, state, now, last):
    """(NEXT, FAULT) of a STATE."""
    for trial, behind, fault in made[1][state]:
        if all(part_holds(part, now, last) for part in trial):
            return behind, fault


def look(made, rows):
    """(STATE ahead, fault) of each tick, and the STATE behind; rows have the SOUND of each voice, tick by tick."""
    state, last, found = 0, [None] * len(rows), []
    for at in range(len(rows[0])):
        now = [row[at] for row in rows]
        behind, fault = tick(made, state, now, last)
        found.append((state, fault))
        state = behind
        last = [pitch if begins else before for (pitch, begins), before in zip(now, last)]
    return found, state


def look_at(made, score):
    return look(made, [plain.sounds(score, voice) for voice in range(plain.voices(score))])


def ticks_of(line):
    """The SOUND of a line, tick by tick."""
    heard = []
    for pitch, long in line:
        heard.append((pitch, pitch is not None))
        heard.extend([(pitch, False)] * (long - 1))
    return heard


def keeps(made, sounds):
    return not any(fault for _, fault in look(made, [ticks_of(line) for line in sounds])[0])


def line_of(numbers, length, widest=5):
    """A line of so many ticks."""
    made = []
    while length:
        long = min(length, 1 + numbers.below(3))
        made.append((None if numbers.below(3) == 0 else numbers.below(2 * widest) - widest, long))
        length -= long
    return tuple(made)


def no_rules():
    """Values that are no RULES."""
    state = (((), 0, 0),)
    found = [(1, ()), (1, (state,) * 7), (0, (state,)), (5, (state,)), (1, [state]), [1, (state,)], (1, state), (1, (state,), 0), (1,),
             (True, (state,)), (1, ((),)), (1, (((("sounds", 0),), 0, 0),)), (1, (state * 6,)), (1, (list(state),)), (1, ((state[0][:2],),)),
             (1, ((((), 1, 0),),)), (1, ((((), -1, 0),),)), (1, ((((), 0, 2),),)), (1, ((((), 0, -1),),)), (1, ((((), 0, True),),)),
             (1, ((((), False, 0),),)), (1, ((([], 0, 0),),)), (1, (([(), 0, 0],),)), (1, ((((), 0, 0, 0),),)), (1, ((None,),)), (1, (None,)),
             (1, ((((), None, 0),),)), (1, ((((), 0, None),),)), ("1", (state,)), (None, (state,)), (1, None)]
    parts = [None, (), ("sounds",), ("sounds", 1), ("sounds", -1), ("sounds", True), ("sounds", None), ("sounds", 0, 0), ["sounds", 0],
             ("Sounds", 0), ("", 0), (0, 0), ("silent", 0, 1), ("begins", "0"), ("pitch", 0), ("pitch", 0, 0), ("pitch", 0, 1, 0), ("pitch", 0, -121, 0),
             ("pitch", 0, 0, 121), ("pitch", 0, None, 0), ("pitch", 0, 0, False), ("pitch", 0, 0, 0, 0), ("step", 0, 2, 1), ("step", 0, 0),
             ("step", 1, 0, 0), ("apart", 0, 0, 0, 0), ("apart", 0, 1, 0, 0), ("class", 0, 1, ()), ("class", 0, 0, ()), (None, 0), (("sounds",), 0), ([], 0), ({}, 0)]
    found += [(1, ((((part,), 0, 0), ((), 0, 0)),)) for part in parts]
    pairs = [("apart", 0, 1, 0), ("apart", 0, 1, 1, 0), ("apart", 0, 1, -121, 0), ("apart", 0, 1, 0, 121), ("apart", 0, 0, 0, 1), ("apart", 0, 2, 0, 1),
             ("apart", 2, 0, 0, 1), ("apart", 0, True, 0, 1), ("apart", False, 1, 0, 1), ("apart", 0, 1, True, 1), ("apart", 0, 1, 0, 1, 0), ("class", 0, 1),
             ("class", 0, 1, [0]), ("class", 0, 1, (0, 0)), ("class", 0, 1, (1, 0)), ("class", 0, 1, (12,)), ("class", 0, 1, (-1,)),
             ("class", 0, 1, (True,)), ("class", 0, 1, None), ("class", 0, 1, 0), ("class", 0, 0, (0,)), ("class", 0, -1, (0,)), ("class", 0, 1, (), ())]
    found += [(2, ((((part,), 0, 0), ((), 0, 0)),)) for part in pairs]
    part = ("sounds", 0)
    found += [(1, ((((part,) * 5, 0, 0), ((), 0, 0)),)), (1, ((((part,), 0, 0), ((part,), 0, 0)),)), (1, ((((part), 0, 0), ((), 0, 0)),)),
              (1, ((([part], 0, 0), ((), 0, 0)),))]
    return found

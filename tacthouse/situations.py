"""What voices can do at a tick, in general: situations, and the moments that come.

For two voices only the FACE of their difference matters: a MOMENT tells them as if the voice 1 had the PITCH 0.
"""

from tacthouse.kinds import is_from_to, is_integer, is_row

FIRST_OF_TWO = (False, False, None)
FIRST_OF_ONE = (False, ())
WIDEST = 12


def moment_of_two(one, other, face):
    """The MOMENT of what two voices do, each one of the words on, rest, begin."""
    above = 0 if face is None else face
    return (voice_moment(one, above), voice_moment(other, 0))


def voice_moment(word, pitch):
    """What a voice is at a tick, by its word and its PITCH if it has one."""
    return (None if word == "rest" else pitch, word == "begin", None)


def situation_of_two(one, other, face):
    """The SITUATION behind what two voices do."""
    return (one != "rest", other != "rest", face)


def words_for(does_sound):
    """What a voice can do."""
    return ("on", "rest", "begin") if does_sound else ("rest", "begin")


def deeds_of_two(situation, faces):
    """All that two voices can do: triples of two words and the FACE behind them."""
    deeds = []
    for one in words_for(situation[0]):
        for other in words_for(situation[1]):
            if one == "rest" or other == "rest":
                deeds.append((one, other, None))
            elif one == "on" and other == "on":
                deeds.append((one, other, situation[2]))
            else:
                deeds.extend([(one, other, face) for face in faces])
    return deeds


def deeds_of_one(situation):
    """All that one voice can do: pairs of a word and the PITCH then, or None."""
    deeds = [("on", situation[1][0])] if situation[0] else []
    deeds.append(("rest", None))
    return deeds + [("begin", pitch) for pitch in range(-WIDEST, WIDEST + 1)]


def moment_of_one(situation, deed):
    """The MOMENT of what one voice does in a SITUATION."""
    word, pitch = deed
    return ((pitch, word == "begin", situation[1][0] if word == "begin" and situation[1] else None),)


def situation_of_one(situation, deed):
    """The SITUATION behind what one voice does."""
    word, pitch = deed
    return (word != "rest", (pitch,) if word == "begin" else situation[1])


def is_face(faces, thing):
    """Whether a value is one of some FACES."""
    return is_integer(thing) and thing in faces


def is_situation_of_two(thing, faces):
    """Whether a value is a SITUATION for two voices."""
    if not is_row(thing, 3, 3) or not isinstance(thing[0], bool) or not isinstance(thing[1], bool):
        return False
    return is_face(faces, thing[2]) if thing[0] and thing[1] else thing[2] is None


def is_situation_of_one(thing):
    """Whether a value is a SITUATION for one voice."""
    if not is_row(thing, 2, 2) or not isinstance(thing[0], bool) or not is_row(thing[1], 0, 1):
        return False
    return is_from_to(thing[1][0], -WIDEST, WIDEST) if thing[1] else not thing[0]

"""Lines: rows of events of any size, and lines put together tick by tick."""

from tacthouse.kinds import is_from_to, is_integer, is_row


def is_line_event(thing, widest):
    """Whether a value is an EVENT of a line, with a PITCH that is at most so high or low, or any if None."""
    if not is_row(thing, 2, 2) or not is_integer(thing[1]) or thing[1] < 1:
        return False
    if thing[0] is None or widest is None:
        return thing[0] is None or is_integer(thing[0])
    return is_from_to(thing[0], -widest, widest)


def is_line(thing, widest):
    """Whether a value is a line with PITCHES that are at most so high or low, or any if None."""
    return isinstance(thing, tuple) and thing != () and all([is_line_event(event, widest) for event in thing])


def is_short_line(thing, widest, longest):
    """Whether a value is a line with such PITCHES, and LONGS that are no greater than told."""
    return is_line(thing, widest) and max([long for _, long in thing]) <= longest


def line_length(line):
    """How many ticks a line has."""
    return sum([long for _, long in line])


def are_sounds(thing, voices, widest):
    """Whether a value is SOUNDS in general, for so many voices, with such PITCHES."""
    if not is_row(thing, voices, voices) or not all([is_line(line, widest) for line in thing]):
        return False
    length = line_length(thing[0])
    return all([line_length(line) == length for line in thing])


def put_tick(line, word, pitch):
    """Puts one more tick behind a list of EVENTS: on, rest, or begin with a PITCH."""
    if word == "on" or word == "rest" and line and line[-1][0] is None:
        line[-1] = (line[-1][0], line[-1][1] + 1)
    else:
        line.append((pitch if word == "begin" else None, 1))

"""What kind of value something is."""


def is_integer(thing):
    """Whether a value is an integer; True and False are none."""
    return isinstance(thing, int) and not isinstance(thing, bool)


def is_from_to(thing, low, high):
    """Whether a value is an integer from low to high."""
    return is_integer(thing) and low <= thing <= high


def is_row(thing, least, most):
    """Whether a value is a tuple of so many things."""
    return isinstance(thing, tuple) and least <= len(thing) <= most


def is_worded(thing, word, size):
    """Whether a value is a tuple of this size with this word first."""
    return is_row(thing, size, size) and isinstance(thing[0], str) and thing[0] == word


def is_ascending(thing, low):
    """Whether a value is an ascending tuple, perhaps (), of integers from low on."""
    if not isinstance(thing, tuple):
        return False
    least = low
    for number in thing:
        if not is_integer(number) or number < least:
            return False
        least = number + 1
    return True


def is_ascending_to(thing, low, high):
    """Whether a value is an ascending tuple, perhaps (), of integers from low to high."""
    return is_ascending(thing, low) and (not thing or thing[-1] <= high)

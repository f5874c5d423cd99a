"""Entries at which a rhythm strikes each beat of its ring just once."""

from tacthouse.errors import BadNumber, BadPaper, TooMany
from tacthouse.floors import floors_of, is_pair_fair, is_prime, power_of, primes_of, times_in, unfair_pair
from tacthouse.kinds import is_ascending, is_ascending_to, is_from_to, is_worded
from tacthouse.rings import need_rhythm

MOST_PRIMES = 2


def are_entries(rhythm, thing):
    """Whether any value is ENTRIES of a RHYTHM."""
    need_rhythm(rhythm)
    return do_enter(rhythm, thing)


def do_enter(rhythm, thing):
    """Whether any value is ENTRIES of what is a RHYTHM."""
    beats, strokes = rhythm
    if not is_ascending_to(thing, 0, beats - 1) or len(thing) * len(strokes) != beats:
        return False
    return len({(stroke + entry) % beats for stroke in strokes for entry in thing}) == beats


def need_prime(prime):
    """Refuses any value that is no prime below 96."""
    if not is_prime(prime):
        raise BadNumber(prime)


def fair_floors(rhythm, prime):
    """The fair floors of a prime, ascending."""
    need_rhythm(rhythm)
    need_prime(prime)
    return floors_of(rhythm, prime)


def is_fair_pair(rhythm, prime, floor, other, far):
    """Whether fair floors of two primes are a fair pair."""
    need_rhythm(rhythm)
    need_prime(prime)
    if not is_floor(rhythm, prime, floor):
        raise BadNumber(floor)
    if not is_prime(other) or other <= prime:
        raise BadNumber(other)
    if not is_floor(rhythm, other, far):
        raise BadNumber(far)
    return is_pair_fair(rhythm, prime, floor, other, far)


def is_floor(rhythm, prime, thing):
    """Whether a value is a fair floor of a prime."""
    return is_from_to(thing, 1, rhythm[0]) and thing in floors_of(rhythm, prime)


def need_few_primes(rhythm):
    """Refuses a RHYTHM whose number of strokes has more than two unlike primes."""
    need_rhythm(rhythm)
    if len(primes_of(len(rhythm[1]))) > MOST_PRIMES:
        raise TooMany(MOST_PRIMES)


def entries_of(rhythm):
    """ENTRIES of a RHYTHM, or None if there are none."""
    need_few_primes(rhythm)
    return entries_by_floors(rhythm) if reason_against(rhythm) is None else None


def entries_paper(rhythm):
    """A PAPER on ENTRIES."""
    need_few_primes(rhythm)
    against = reason_against(rhythm)
    return ("entries", entries_by_floors(rhythm)) if against is None else against


def reason_against(rhythm):
    """A PAPER that there are no ENTRIES, or None; there are at most two unlike primes."""
    beats, many = rhythm[0], len(rhythm[1])
    if beats % many != 0:
        return ("share",)
    for prime in primes_of(many):
        floors = floors_of(rhythm, prime)
        if len(floors) != times_in(prime, many):
            return ("floors", prime, floors)
    pair = unfair_pair(rhythm)
    return None if pair is None else ("pair",) + pair


def entries_by_floors(rhythm):
    """The ENTRIES that the floors tell which are not fair, there being nothing against ENTRIES.

    As Coven and Meyerowitz build them: for each such floor A of a prime P they go P times by as many beats as the
    P ** (A - 1) times the greatest divisor of N without P.
    """
    beats = rhythm[0]
    entries = [0]
    for prime in primes_of(beats):
        highest, fair = times_in(prime, beats), floors_of(rhythm, prime)
        others = beats // power_of(prime, highest)
        for floor in range(1, highest + 1):
            if floor not in fair:
                step = others * power_of(prime, floor - 1)
                entries = [(entry + step * many) % beats for entry in entries for many in range(prime)]
    return tuple(sorted(entries))


def check_entries(rhythm, paper):
    """The first word of a PAPER on ENTRIES that holds."""
    need_rhythm(rhythm)
    for word, size in (("entries", 2), ("share", 1), ("floors", 3), ("pair", 5)):
        if is_worded(paper, word, size):
            if not does_hold(rhythm, word, paper[1:]):
                raise BadPaper(word)
            return word
    raise BadPaper("form")


def does_hold(rhythm, word, told):
    """Whether a PAPER with this word, and so many things behind it as it has, is as told."""
    if word == "entries":
        return do_enter(rhythm, told[0])
    if word == "share":
        return rhythm[0] % len(rhythm[1]) != 0
    if word == "floors":
        return are_other_floors(rhythm, told[0], told[1])
    return is_unfair(rhythm, told)


def are_other_floors(rhythm, prime, floors):
    """Whether a value is the fair floors of a prime, other than as many as it stands in the number of strokes."""
    if not is_prime(prime) or not is_ascending(floors, 1) or floors != floors_of(rhythm, prime):
        return False
    return len(floors) != times_in(prime, len(rhythm[1]))


def is_unfair(rhythm, told):
    """Whether (P, A, Q, B) are fair floors whose pair is not fair, there being at most two unlike primes."""
    prime, floor, other, far = told
    if len(primes_of(len(rhythm[1]))) > MOST_PRIMES or not is_prime(prime) or not is_prime(other) or other <= prime:
        return False
    if not is_floor(rhythm, prime, floor) or not is_floor(rhythm, other, far):
        return False
    return not is_pair_fair(rhythm, prime, floor, other, far)

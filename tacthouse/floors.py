"""Floors of primes: by how many strokes have which rest."""

from tacthouse.kinds import is_from_to

MOST_PRIME = 95


def is_prime(thing):
    """Whether a value is a prime below 96."""
    return is_from_to(thing, 2, MOST_PRIME) and all([thing % part != 0 for part in range(2, thing)])


def primes_of(number):
    """The primes that divide an integer from 1 to 96, ascending."""
    # 96 and what divides it have no prime above 95, and no other number from 1 to 96 has one.
    return [prime for prime in range(2, number + 1) if is_prime(prime) and number % prime == 0]


def times_in(prime, number):
    """How often a prime stands in an integer from 1 on."""
    many = 0
    while number % prime == 0:
        number //= prime
        many += 1
    return many


def power_of(prime, many):
    """A prime, so many times multiplied."""
    power = 1
    for _ in range(many):
        power *= prime
    return power


def rest_counts(strokes, divisor):
    """How many strokes have each rest by an integer."""
    counts = [0] * divisor
    for stroke in strokes:
        counts[stroke % divisor] += 1
    return counts


def is_fair_floor(rhythm, prime, floor):
    """Whether a floor of a prime is fair."""
    power = power_of(prime, floor)
    counts = rest_counts(rhythm[1], power)
    below = power // prime
    return all([counts[rest] == counts[rest % below] for rest in range(power)])


def floors_of(rhythm, prime):
    """The fair floors of a prime, ascending."""
    highest = times_in(prime, rhythm[0])
    return tuple([floor for floor in range(1, highest + 1) if is_fair_floor(rhythm, prime, floor)])


def is_pair_fair(rhythm, prime, floor, other, far):
    """Whether fair floors of two primes are a fair pair."""
    divisor = power_of(prime, floor) * power_of(other, far)
    counts = rest_counts(rhythm[1], divisor)
    one, two = divisor // prime, divisor // other
    for rest in range(divisor):
        both = counts[(rest - one) % divisor] + counts[(rest - two) % divisor]
        if counts[rest] + counts[(rest - one - two) % divisor] != both:
            return False
    return True


def unfair_pair(rhythm):
    """(P, A, Q, B) of fair floors of primes in how many strokes there are, whose pair is not fair; None if all are."""
    primes = primes_of(len(rhythm[1]))
    for prime in primes:
        for other in primes:
            for floor in floors_of(rhythm, prime) if prime < other else ():
                for far in floors_of(rhythm, other):
                    if not is_pair_fair(rhythm, prime, floor, other, far):
                        return (prime, floor, other, far)
    return None

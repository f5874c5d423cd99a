"""The seconds at which ringers meet, one stroke of each chosen."""

from math import gcd, lcm

from tacthouse.quotients import ceiling_of, product_of, reduced, whole
from tacthouse.strikes import Ringing, bottom_of, common_times


class Meets:
    """The CHOICES of some ringers and the times, SECONDS times the bottom, at which they MEET by them."""

    def __init__(self, ringers):
        self.bottom = bottom_of(ringers, ())
        self.ringings = [Ringing(ringer, self.bottom) for ringer in ringers]
        self.lap = 1
        for ringing in self.ringings:
            self.lap = lcm(self.lap, ringing.lap)
        self.shares = {(one, far): gcd(self.ringings[one].lap, self.ringings[far].lap)
                       for far in range(len(ringers)) for one in range(far)}

    def choices(self):
        """All CHOICES, ascending."""
        rows = [()]
        for ringing in self.ringings:
            rows = [row + (stroke,) for row in rows for stroke in ringing.strokes]
        return rows

    def is_clash(self, choice, one, far):
        """Whether two ringers, the first number being less, clash in a CHOICE."""
        apart = self.ringings[far].times[choice[far]] - self.ringings[one].times[choice[one]]
        return apart % self.shares[(one, far)] != 0

    def clash_in(self, choice):
        """Two ringers that clash in a CHOICE, or None."""
        for pair in self.shares:
            if self.is_clash(choice, pair[0], pair[1]):
                return pair
        return None

    def meetings(self):
        """(time, CHOICE) of all times of a COMMON ROUND from nought on at which they MEET, ascending."""
        found = []
        for choice in self.choices():
            if self.clash_in(choice) is None:
                both = (0, 1)
                for ringing, stroke in zip(self.ringings, choice):
                    both = common_times(both, (ringing.times[stroke], ringing.lap))
                found.append((both[0], choice))
        return sorted(found)

    def meet_from(self, second, number):
        """The SECOND of this number from a SECOND on at which they MEET, or None."""
        start = ceiling_of(product_of(second, whole(self.bottom)))
        ahead = sorted([(time - start) % self.lap for time, _ in self.meetings()])
        if not ahead:
            return None
        time = start + ahead[number % len(ahead)] + number // len(ahead) * self.lap
        return reduced(time, self.bottom)

    def many_between(self, second, other):
        """At how many SECONDS from one on to below a later one they MEET."""
        start, end = [ceiling_of(product_of(edge, whole(self.bottom))) for edge in (second, other)]
        return sum([(end - 1 - time) // self.lap - (start - 1 - time) // self.lap for time, _ in self.meetings()])

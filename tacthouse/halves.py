"""Which letters are chosen as left ones, so that a quarter of all joints at least become one letter."""


def neighbours_of(joints):
    """For each letter what stands beside it: a list of (other letter, how often)."""
    beside = {}
    for (left, right), often in joints.items():
        beside.setdefault(left, []).append((right, often))
        beside.setdefault(right, []).append((left, often))
    return beside


def sides_of(beside):
    """Which letters are on the one side, such that half of all joints at least are between the two sides."""
    sides = {}
    for letter in sorted(list(beside)):
        lead = 0
        for other, often in beside[letter]:
            if other in sides:
                lead += -often if sides[other] else often
        sides[letter] = lead >= 0
    return sides


def chosen_left(joints):
    """The left letters, ascending, for joints of unlike letters, each with how often it is there."""
    sides = sides_of(neighbours_of(joints))
    forward = sum([often for (left, right), often in joints.items() if sides[left] and not sides[right]])
    backward = sum([often for (left, right), often in joints.items() if sides[right] and not sides[left]])
    side = forward >= backward
    return sorted({left for left, right in joints if sides[left] == side and sides[right] != side})

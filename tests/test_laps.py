"""What the papers of [111] rest on: how often letters stand side by side, and a choice that a quarter of it follows."""

import unittest

from tacthouse.halves import chosen_left
from tacthouse.laps import joints, make_lap
from tacthouse.parting import laps_to_single
from tacthouse.wording import fold_of
from tests import making, plain


def side_by_side(words):
    counts = {}
    for word in words:
        for pair in zip(word, word[1:]):
            counts[pair] = counts.get(pair, 0) + 1
    return counts


class Laps(unittest.TestCase):
    def test_joints(self):
        """Of unlike letters, against the words letter by letter, ahead of each lap."""
        for start in range(80):
            numbers = making.Numbers(start + 640)
            one, other = [making.score(numbers, 1, 3 + numbers.below(9), 150) for _ in range(2)]
            letters = sorted(set(plain.word(one, 0)) | set(plain.word(other, 0)),
                             key=lambda pair: (pair[0] is not None, pair[0] or 0, pair[1]))
            words, fresh = [[letters.index(pair) for pair in plain.word(score, 0)] for score in (one, other)], len(letters)
            fold = fold_of((one, other), 0)
            for made in laps_to_single(fold_of((one, other), 0)):
                told = {pair: often for pair, often in joints(fold).items() if pair[0] != pair[1]}
                counts = side_by_side(words)
                self.assertEqual(told, {pair: often for pair, often in counts.items() if pair[0] != pair[1]})
                self.assertEqual(any(left == right for left, right in joints(fold)),
                                 any(left == right for left, right in counts))
                if made[0] == "pairs":
                    left = set(made[1])
                    follow = sum(counts[pair] for pair in counts if pair[0] in left and pair[1] not in left)
                    self.assertGreaterEqual(4 * follow, sum(counts.values()))
                words, fresh = plain.lap(words, made, fresh)
                make_lap(fold, made)
            self.assertEqual([len(word) for word in words], [1, 1])

    def test_a_quarter(self):
        for start in range(300):
            numbers = making.Numbers(start + 12)
            letters = 2 + numbers.below(7)
            counts = {}
            for _ in range(1 + numbers.below(20)):
                left = numbers.below(letters)
                right = (left + 1 + numbers.below(letters - 1)) % letters
                counts[(left, right)] = 1 + numbers.below(10 ** 6)
            left = chosen_left(counts)
            self.assertEqual(left, sorted(set(left)))
            follow = sum(often for (one, other), often in counts.items() if one in left and other not in left)
            self.assertGreaterEqual(4 * follow, sum(counts.values()))


if __name__ == "__main__":
    unittest.main()

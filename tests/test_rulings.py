"""Rules between voices: [400], [411], and tacthouse.rulings."""

import unittest

from tacthouse.errors import BadRule, TooMany
from tacthouse.rulings import faces_of, is_plain, need_rule
from tests import ruling
from tests.making import Numbers
from tests.refusing import ODD, Refusing

ALL = (("sounds", 0), ("silent", 1), ("begins", 0), ("pitch", 1, -120, 120), ("apart", 1, 0, -120, -120), ("class", 0, 1, ()),
       ("step", 0, 0, 0), ("class", 1, 0, tuple(range(12))))


def with_parts(*parts):
    """A RULE for two voices that has these in its TESTS."""
    return (2, ((tuple(((part,), 0, 0) for part in parts[:4]) + (((), 0, 0),)),) + tuple(
        (tuple(((part,), 0, 0) for part in parts[at:at + 4]) + (((), 0, 0),)) for at in range(4, len(parts), 4)))


def faces(*rules):
    """The FACES by the words of [411]."""
    parts = [part for made in rules for state in made[1] for test, _, _ in state for part in test if part[0] in ("apart", "class")]
    found, seen = [], []
    for difference in range(-132, 133):
        marks = [ruling.part_holds(part, ((difference, False), (0, False)), None) for part in parts]
        if marks not in seen:
            seen.append(marks)
            found.append(difference)
    return tuple(found)


class Rulings(Refusing, unittest.TestCase):
    def test_arguments(self):
        made = with_parts(*ALL[:4])
        self.assertIs(need_rule(rule=made), made)
        self.assertIs(is_plain(rule=made), False)
        self.assertEqual(faces_of(rule=with_parts(ALL[4]), other=with_parts(ALL[5])), (-132, 120))

    def test_rules(self):
        """All words, and as much as there can be."""
        made = with_parts(*ALL)
        self.assertIs(need_rule(made), made)
        triples = ((ALL[:4], 5, 1),) * 4 + (((), 0, 0),)
        for voices in (2, 3, 4):
            self.assertEqual(need_rule((voices, (triples,) * 6)), (voices, (triples,) * 6))
        self.assertEqual(need_rule((1, ((((), 0, 0), ((), 0, 1)),))), (1, ((((), 0, 0), ((), 0, 1)),)))
        need_rule((4, (((((("apart", 3, 2, 0, 0),)), 0, 0), ((), 0, 0)),)))

    def test_no_rules(self):
        for odd in ODD + tuple(ruling.no_rules()) + (0, 10 ** 900):
            self.refused(BadRule, odd, need_rule, odd)
            self.refused(BadRule, odd, is_plain, odd)
            self.refused(BadRule, odd, faces_of, odd, None)
            self.refused(BadRule, odd, faces_of, with_parts(), odd)

    def test_plain(self):
        for part in ALL:
            self.assertIs(self.same(is_plain, with_parts(part)), part[0] not in ("pitch", "step"))
            # Also in a STATE that never comes, and behind a TEST that always holds.
            hidden = (2, ((((), 0, 0),), (((), 0, 0), ((("sounds", 0), part), 1, 0), ((), 0, 0))))
            self.assertIs(is_plain(hidden), part[0] not in ("pitch", "step"))
        self.assertIs(is_plain((1, ((((), 0, 0),),))), True)
        self.assertIs(is_plain((4, ((((("apart", 3, 2, 0, 0),), 0, 0), ((), 0, 0)),))), True)

    def test_faces(self):
        none = with_parts()
        self.assertEqual(faces_of(none, none), (-132,))
        self.assertEqual(faces_of(with_parts(("apart", 0, 1, -3, 4)), none), (-132, -3))
        self.assertEqual(faces_of(with_parts(("apart", 1, 0, -3, 4)), none), (-132, -4))
        self.assertEqual(faces_of(with_parts(("class", 0, 1, (0, 7))), none), (-132, -131))
        self.assertEqual(faces_of(with_parts(("class", 1, 0, (5,))), with_parts(("class", 0, 1, (7,)))), (-132, -125))
        self.assertEqual(faces_of(with_parts(("apart", 0, 1, -120, 120)), none), (-132, -120))
        self.assertEqual(faces_of(with_parts(("class", 0, 1, ())), with_parts(("class", 0, 1, tuple(range(12))))), (-132,))

    def test_faces_against_all_differences(self):
        sizes = set()
        for start in range(150):
            numbers = Numbers(start)
            one = ruling.rule(numbers, 2, 1 + numbers.below(2), ruling.PLAIN)
            other = ruling.rule(numbers, 2, 1 + numbers.below(2), ruling.PLAIN)
            told = faces(one, other)
            sizes.add(len(told))
            if len(told) > 12:
                self.refused(TooMany, 12, faces_of, one, other)
            else:
                self.assertEqual(self.same(faces_of, one, other), told)
        self.assertTrue({1, 2, 3, 5, 8} <= sizes)

    def test_more_than_twelve(self):
        rests = [("class", 0, 1, (rest,)) for rest in range(12)]
        self.assertEqual(faces_of(with_parts(*rests), with_parts()), tuple(range(-132, -120)))
        self.assertEqual(faces_of(with_parts(*rests[:6]), with_parts(*rests[6:11])), tuple(range(-132, -120)))
        self.refused(TooMany, 12, faces_of, with_parts(*rests, ("apart", 0, 1, 0, 0)), with_parts())
        self.refused(TooMany, 12, faces_of, with_parts(*rests), with_parts(("apart", 0, 1, 0, 0)))
        steps = [("apart", 0, 1, 10 * at, 10 * at) for at in range(11)]
        self.assertEqual(len(faces_of(with_parts(*steps), with_parts())), 12)
        self.refused(TooMany, 12, faces_of, with_parts(*steps, ("apart", 0, 1, 110, 110)), with_parts())

    def test_errors_of_faces(self):
        fine = with_parts(("apart", 0, 1, 0, 0))
        not_plain, for_one = with_parts(("step", 0, 0, 0)), (1, ((((), 0, 0),),))
        for odd in (not_plain, with_parts(("pitch", 0, 0, 0)), for_one, (3, for_one[1]), (4, for_one[1])):
            self.refused(BadRule, odd, faces_of, odd, fine)
            self.refused(BadRule, odd, faces_of, fine, odd)
            self.refused(BadRule, odd, faces_of, odd, None)
        many = with_parts(*[("apart", 0, 1, 10 * at, 10 * at) for at in range(12)])
        self.refused(BadRule, for_one, faces_of, many, for_one)
        self.refused(TooMany, 12, faces_of, many, fine)


if __name__ == "__main__":
    unittest.main()

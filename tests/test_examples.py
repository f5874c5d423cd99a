"""The examples of the document and of README.md."""

import doctest
import os
import unittest

HERE = os.path.dirname(os.path.dirname(os.path.abspath(__file__)))


class Examples(unittest.TestCase):
    def test_examples_of_the_document(self):
        from tacthouse.alike import are_alike
        from tacthouse.entries import check_entries
        from tacthouse.laid import laid
        from tacthouse.rings import content_of, even_rhythm
        from tacthouse.scales import least_steps, steps_of
        from tacthouse.scores import sign_lengths
        from tacthouse.sounds import heard_all

        one = (('block', (((0, 1), (None, 2)),)), ('again', 0, 10 ** 12))
        self.assertEqual((sign_lengths(one), laid(one, 0, 3), laid(one, 0, 7)[:2]),
                         ((3, 3000000000000), (1000000000000, 0, 0), (142857142858, 142857142857)))
        one, other = ('block', (((0, 2), (None, 1)),)), ('block', (((0, 2),),))
        rest = ('block', (((None, 1),),))
        self.assertEqual((are_alike((one,), (other, rest, ('then', 0, 1))), heard_all((one, ('again', 0, 10 ** 12)), 2)),
                         (True, ((None, 0, 1),)))
        self.assertEqual((even_rhythm(8, 3), content_of((8, (0, 3, 6))), check_entries((8, (0, 1, 4, 5)), ('entries', (1, 7)))),
                         ((8, (0, 2, 5)), (0, 1, 2, 0, 2, 1, 0), 'entries'))
        self.assertEqual((least_steps(((-4, 4, -1, 0), (7, 0, -3, 0), (-5, 2, 2, -1))), steps_of((53, 84, 123, 149), (-1, 1, 0, 0))),
                         (12, 31))
        self.assertIs(least_steps(((1, 0, 0, 0),)) is None, True)

    def test_examples_of_the_readme(self):
        told = doctest.testfile(os.path.join(HERE, "README.md"), module_relative=False)
        self.assertEqual(told.failed, 0)
        self.assertGreater(told.attempted, 5)


if __name__ == "__main__":
    unittest.main()

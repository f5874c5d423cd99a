"""The classes of tacthouse.errors."""

import unittest

from tacthouse import errors

PLACE = "BadScore BadPaper BadTempo BadLog BadRingers BadInstrument BadPlayers BadText BadDeed".split()
VALUE = """BadVoice BadTick BadNumber BadFraction BadRing BadVoices BadPaces OutOfScore BadMoment BadClocks BadMarks
BadRinger BadRule BadSounds BadCall BadChoices BadRound BadGood BadRow BadRatio BadScale BadTable BadFingering BadState
BadPlaying BadGait BadStart""".split()


class Errors(unittest.TestCase):
    def test_classes(self):
        self.assertEqual(errors.TactError.__bases__, (ValueError,))
        self.assertIsInstance(errors.TactError(), ValueError)
        for name in PLACE + VALUE:
            self.assertEqual(getattr(errors, name).__bases__, (errors.TactError,), name)
        self.assertEqual(errors.NoTimes.__bases__, (LookupError,))
        self.assertEqual(errors.TooMany.__bases__, (OverflowError,))
        own = [name for name, one in vars(errors).items() if isinstance(one, type)]
        self.assertEqual(sorted(own), sorted(PLACE + VALUE + ["TactError", "NoTimes", "TooMany"]))

    def test_fields(self):
        fields = [(name, "place") for name in PLACE] + [(name, "value") for name in VALUE]
        for name, field in fields + [("NoTimes", "paper"), ("TooMany", "most")]:
            for value in (3, None, "form", [1], {}, (), ("ring", ()), object()):
                made = getattr(errors, name)(value)
                self.assertIs(getattr(made, field), value)
                self.assertEqual(vars(made), {field: value})
                self.assertIs(getattr(getattr(errors, name)(**{field: value}), field), value)
            with self.assertRaises(TypeError):
                getattr(errors, name)()


if __name__ == "__main__":
    unittest.main()

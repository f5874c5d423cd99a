"""Desks: deeds, undoing, texts of deeds, trials, first uses and partings: [910] to [912], and tacthouse.desk."""

import inspect
import unittest

from tacthouse.alike import first_parting
from tacthouse.desk import Desk, under
from tacthouse.errors import (BadDeed, BadFraction, BadNumber, BadPlaying, BadScore, BadTempo, BadText, BadVoice, OutOfScore,
                              TooMany)
from tacthouse.scores import asked_signs
from tacthouse.slips import least_slips
from tacthouse.tempos import tempo_behind
from tacthouse.timed import heard_at
from tests import making, plain
from tests.refusing import NO_INTEGERS, ODD, Refusing
from tests.test_slips import no_playings
from tests.test_units import TOO_MANY, VERY, A

B = ("block", (((5, 1),),))
SCORE = (A, B, ("then", 0, 1))
STEADY = ((None, (1, 1)),)
SLOW = (((4, 1), (1, 2)), (None, (3, 1)))
PLAYED = ((0, 0), (5, 7))
DEEDS = (("put", ("again", 2, 10 ** 12)), ("set", 1, ("block", (((7, 2), (None, 1)),))), ("tempo", SLOW), ("behind", ((None, (1, 3)),)), ("strike", 7, 9), ("strike", -7, 10),
         ("drop",), ("hush",))
TEXT = ("put again 2 1000000000000\nset 1 block 7:2 -:1\ntempo 4/1 1/2 on 3/1\nbehind on 1/3\nstrike 7@9\nstrike -7@10\ndrop\nhush")


class Quiet:
    """A manager that lets a TactError go no further, and gives what it was made with."""

    def __init__(self, one):
        self.one, self.went = one, []

    def __enter__(self):
        self.went.append("in")
        return self.one

    def __exit__(self, kind, value, trace):
        self.went.append(kind)
        return kind is not None and issubclass(kind, ValueError)


def first_use(score, number):
    """The least tick at which a SIGN with this number begins in what the SCORE reads, going through all of it."""
    def walk(at, begin, back):
        if at == number:
            yield begin
        sign = score[at]
        word = sign[0]
        parts = {"block": [], "then": list(sign[1:]), "again": [sign[1]] * (sign[2] if word == "again" else 1),
                 "ends": [part for end in (sign[2] if word == "ends" else ()) for part in (sign[1], end)]}.get(word, [sign[1]])
        turned = back != (word == "back")
        for part in parts[::-1] if turned else parts:
            yield from walk_slow(part, begin, turned, sign[2] if word == "slow" else 1)
            begin += lasts(part) * (sign[2] if word == "slow" else 1)

    def walk_slow(part, begin, back, slow):
        for tick in walk(part, 0, back):
            yield begin + slow * tick

    def lasts(at):
        return plain.length(score, at)

    return min(walk(len(score) - 1, 0, False), default=None)


def some_deed(numbers, desk):
    """A DEED, which may be one that can be done."""
    word = numbers.one_of(("put", "put", "set", "drop", "tempo", "behind", "strike", "strike", "hush"))
    voices = len(desk.score[0][1])
    if word == "put":
        return (word, making.sign(numbers, len(desk.score), voices))
    if word == "set":
        number = numbers.below(len(desk.score) + 1)
        return (word, number, making.sign(numbers, number, voices))
    if word in ("tempo", "behind"):
        rates = [(1 + numbers.below(9), 1), (1, 1 + numbers.below(9))]
        return (word, (((1 + numbers.below(20), 1), numbers.one_of(rates)), (None, numbers.one_of(rates))))
    return (word, numbers.below(9), numbers.below(60)) if word == "strike" else (word,)


class Desks(Refusing, unittest.TestCase):
    def leads(self, desk, score, tempo, playing):
        self.assertEqual((desk.score, desk.tempo, desk.playing), (score, tempo, playing))

    def test_arguments(self):
        desk = Desk(score=SCORE, tempo=SLOW, playing=PLAYED)
        self.leads(desk, SCORE, SLOW, PLAYED)
        self.leads(Desk(SCORE), SCORE, STEADY, None)
        self.leads(Desk(SCORE, SLOW), SCORE, SLOW, None)
        self.leads(Desk(SCORE, STEADY, PLAYED), SCORE, STEADY, PLAYED)
        self.assertIsNone(desk.do(deed=("hush",)))
        self.assertIsNone(desk.run(text="strike 0@0"))
        self.assertEqual(desk.deeds(), (("hush",), ("strike", 0, 0)))
        self.assertIsNone(desk.undo(many=1))
        self.assertIsNone(desk.undo())
        self.assertEqual(desk.heard(second=(1, 2)), ((0, (1, 2), (1, 2)),))
        self.assertEqual(desk.first_use(number=1), 3)
        self.assertEqual(desk.slips(voice=0), 0)
        self.assertIsNone(desk.parting(many=0))
        self.assertEqual(under(manager=desk.trial(), deed=len), 0)
        heads = {"__init__": "score tempo playing", "do": "deed", "run": "text", "undo": "many", "deeds": "", "text": "", "length": "", "lasts": "", "heard": "second", "first_use": "number",
                 "slips": "voice", "parting": "many", "copy": "", "trial": "", "__len__": "", "__eq__": "other"}
        for name, parameters in heads.items():
            self.assertIn(name, vars(Desk))
            self.assertEqual(list(inspect.signature(vars(Desk)[name]).parameters), ["self"] + parameters.split(), name)
        for name in ("score", "tempo", "playing"):
            self.assertIsInstance(vars(Desk)[name], property)

    def test_each_deed(self):
        desk = Desk(SCORE)
        # Each is done behind those ahead; what is led then.
        other = ("block", (((7, 2), (None, 1)),))
        put = SCORE + (("again", 2, 10 ** 12),)
        changed = (A, other, ("then", 0, 1), ("again", 2, 10 ** 12))
        behind = tempo_behind(SLOW, ((None, (1, 3)),))
        led = ((put, STEADY, None), (changed, STEADY, None), (changed, SLOW, None), (changed, behind, None), (changed, behind, ((7, 9),)), (changed, behind, ((7, 9), (-7, 10))),
               (changed[:3], behind, ((7, 9), (-7, 10))), (changed[:3], behind, None))
        self.assertEqual(behind, (((4, 1), (1, 6)), (None, (1, 1))))
        for number, (deed, there) in enumerate(zip(DEEDS, led)):
            self.assertEqual(len(desk), number)
            self.assertIsNone(desk.do(deed))
            self.leads(desk, *there)
            self.assertEqual(desk.deeds(), DEEDS[:number + 1])
        self.assertEqual(desk.text(), TEXT)
        other_desk = Desk(SCORE)
        other_desk.run(TEXT)
        self.assertEqual(other_desk, desk)
        self.assertEqual(other_desk.deeds(), DEEDS)
        # Undone one by one, and several at once.
        for number in reversed(range(len(DEEDS))):
            self.assertIsNone(desk.undo())
            self.leads(desk, *((SCORE, STEADY, None) if not number else led[number - 1]))
            self.assertEqual(desk.deeds(), DEEDS[:number])
        other_desk.undo(5)
        self.leads(other_desk, *led[2])
        other_desk.undo(3)
        self.leads(other_desk, SCORE, STEADY, None)
        self.assertEqual((len(other_desk), other_desk.text(), other_desk.deeds()), (0, "", ()))

    def cannot(self, desk, deed, place):
        before = (desk.score, desk.tempo, desk.playing, desk.deeds())
        self.refused(BadDeed, place, desk.do, deed)
        self.assertEqual((desk.score, desk.tempo, desk.playing, desk.deeds()), before)

    def test_deeds_that_cannot_be_done(self):
        desk = Desk(SCORE)
        for odd in ODD + (0, "put", ("put",), ("put", B, B), ["put", B], ("Put", B), ("set", 0), ("set", 0, B, 0), ("drop", 0), ("drop", None), ("tempo",), ("tempo", STEADY, 0), ("behind",),
                          ("behind", 0, 0), ("strike",), ("strike", 0), ("strike", 0, 0, 0), ("strike", (0, 0)), ("hush", 0), (("put",), B), ("undo",), ("", B), (None, B), (["drop"],), ({},)):
            self.cannot(desk, odd, "form")
        for odd in NO_INTEGERS + (-1, 3, 10 ** 900):
            self.cannot(desk, ("set", odd, B), "number")
            self.cannot(desk, ("set", odd, None), "number")
        self.cannot(Desk((A,)), ("drop",), "number")
        for sign in ODD + (("then", 0, 3), ("then", 0, 4), ("again", 0, 0), ("block", (((0, 1),), ((0, 1),))), ("up", 2, 60), ("slow", 0, 4), ["block", (((0, 1),),)]):
            self.cannot(desk, ("put", sign), "score")
            self.cannot(desk, ("set", 2, sign), "score")
        # What others name has to read as it did.
        self.cannot(desk, ("set", 0, ("turned", 0)), "score")
        self.cannot(desk, ("set", 0, ("block", (((0, 1),), ((0, 1),)))), "score")
        self.cannot(Desk((A, ("up", 0, 24), ("up", 1, 24))), ("set", 0, ("block", (((20, 1),),))), "score")
        self.cannot(Desk((A,) * 40), ("put", A), "score")
        long = Desk((A,) + tuple(("again", at, 10 ** 12) for at in range(3)) + (("again", 3, 1000),))
        self.cannot(long, ("put", ("again", 4, 4)), "score")
        long.do(("put", ("again", 4, 3)))
        # So many varied signs: 200 are enough.
        few = Desk(TOO_MANY[:16])
        self.assertEqual(len(asked_signs(few.score)), 182)
        self.cannot(few, ("put", TOO_MANY[16]), "score")
        few.do(("put", ("then", 13, 12)))
        hidden = Desk(TOO_MANY + (A,))
        self.cannot(hidden, ("drop",), "score")
        hidden.do(("put", A))
        self.cannot(hidden, ("put", ("then", 0, len(TOO_MANY) - 1)), "score")
        for odd, _ in ((None, 0), ((), 0), ([], 0), ((None,), 0), (((1, 1), (1, 1)), 0), ((((1, 1), (1, 1)),), 0), (((None, (2, 2)),), 0), (STEADY * 2, 0), (((None, (True, 1)),), 0), ("on 1/1", 0)):
            self.cannot(desk, ("tempo", odd), "tempo")
            self.cannot(desk, ("behind", odd), "tempo")
        for pair in ((None, 0), (61, 0), (-61, 0), (True, 0), (0, -1), (0, 10 ** 9 + 1), (0, True), (0, None), ("0", 0), (0, (0,))):
            self.cannot(desk, ("strike",) + pair, "playing")
        self.cannot(desk, ("hush",), "playing")
        desk.do(("strike", 0, 5))
        self.cannot(desk, ("strike", 0, 5), "playing")
        self.cannot(desk, ("strike", 0, 4), "playing")
        for time in range(6, 13):
            desk.do(("strike", 0, time))
        self.cannot(desk, ("strike", 0, 13), "playing")
        desk.do(("hush",))
        self.cannot(desk, ("hush",), "playing")
        desk.do(("strike", 0, 0))

    def test_tempos_behind_one_another(self):
        """By at most 40 pairs."""
        many = tuple(((1, 1), (1 + at % 2, 1)) for at in range(20)) + ((None, (3, 1)),)
        desk = Desk(SCORE)
        desk.do(("behind", many))
        self.assertEqual(desk.tempo, tempo_behind(STEADY, many))
        self.cannot(desk, ("behind", tuple(((3, 7), (1 + at % 2, 1)) for at in range(39)) + ((None, (3, 1)),)), "tempo")
        desk.do(("tempo", many[19:]))
        desk.do(("behind", many))
        self.assertEqual(desk.tempo, tempo_behind(many[19:], many))
        # 40 pairs, and 41.
        two = (((1, 2), (1, 1)), (None, (2, 1)))
        for many in (39, 40):
            desk.do(("tempo", two))
            deed = ("behind", tuple(((3, 7), (1 + at % 2, 1)) for at in range(many - 1)) + ((None, (3, 1)),))
            if many == 39:
                desk.do(deed)
                self.assertEqual(len(desk.tempo), 40)
            else:
                self.cannot(desk, deed, "tempo")
        # One that is led is kept as it is told, not made plain.
        twice = (((1, 1), (2, 1)), (None, (2, 1)))
        desk.do(("tempo", twice))
        self.assertEqual(desk.tempo, twice)
        self.assertEqual(Desk(SCORE, twice).tempo, twice)
        self.assertNotEqual(Desk(SCORE, twice), Desk(SCORE, ((None, (2, 1)),)))

    def test_undoing(self):
        desk = Desk(SCORE)
        for odd in NO_INTEGERS + (0, -1, 1, 10 ** 900):
            self.refused(BadNumber, odd, desk.undo, odd)
        self.refused(BadNumber, 1, desk.undo)
        desk.run("put block 0:1\ndrop\nput block 1:1")
        for odd in NO_INTEGERS + (0, -1, 4):
            self.refused(BadNumber, odd, desk.undo, odd)
        self.assertEqual(len(desk), 3)
        desk.undo(3)
        self.assertEqual(desk, Desk(SCORE))
        desk.run("put block 1:1\nput block 2:1")
        desk.undo()
        desk.do(("drop",))
        self.assertEqual(desk.text(), "put block 1:1\ndrop")

    def test_running(self):
        """All of them or none."""
        desk = Desk(SCORE)
        self.assertIsNone(desk.run(""))
        self.assertEqual(len(desk), 0)
        for text, place in (("drop\ndrop\ndrop", (2, "number")), ("put then 0 3", (0, "score")), ("put back 0\nset 4 back 0", (1, "number")), ("hush", (0, "playing")),
                            ("strike 0@1\nstrike 0@1", (1, "playing")), ("tempo on 2/4", (0, "tempo")), ("tempo on 1/1\nbehind 1/1 1/1", (1, "tempo")), ("put up 0 25", (0, "score")),
                            ("set -1 back 0", (0, "number")), ("strike 0@1\nhush\nhush\nfoo", None), ("put back 0\nput back 3\nput back 5", (2, "score"))):
            if place is None:
                self.refused(BadText, (3, 0), desk.run, text)
            else:
                self.refused(BadDeed, place, desk.run, text)
            self.assertEqual((len(desk), desk.score), (0, SCORE))
        desk.run("put back 0\nstrike 5@0")
        for text in ("drop\ndrop\ndrop\ndrop", "hush\nhush"):
            with self.assertRaises(BadDeed):
                desk.run(text)
        self.assertEqual(desk.text(), "put back 0\nstrike 5@0")
        for odd in ODD + (0, b"", ["drop"], ("drop",)):
            if not isinstance(odd, str):
                self.refused(BadText, None, desk.run, odd)

    def test_texts_of_deeds_that_have_not_the_form(self):
        desk = Desk(SCORE)
        for text, place in (("foo", (0, 0)), (" ", (0, 0)), ("\n", (0, 0)), ("drop\n", (1, 0)), ("\ndrop", (0, 0)), ("drop ", (0, 1)), ("drop 0", (0, 1)), ("hush hush", (0, 1)), ("Drop", (0, 0)),
                            ("put", (0, 1)), ("put foo", (0, 1)), ("put then", (0, 2)), ("put then 0", (0, 3)), ("put then 0 0 0", (0, 4)), ("put 0 back 0", (0, 1)), ("put block", (0, 2)),
                            ("put block 0:1 |", (0, 4)), ("put block 0:1 x", (0, 3)), ("put ends 0", (0, 3)), ("set", (0, 1)), ("set 0", (0, 2)), ("set x", (0, 1)), ("set back 0", (0, 1)),
                            ("set 0 back", (0, 3)), ("set 0 back 0 0", (0, 4)), ("set 0 0", (0, 2)), ("tempo", (0, 1)), ("tempo on", (0, 2)), ("tempo on 1/1 on", (0, 4)), ("tempo on 1/1 1/1", (0, 4)),
                            ("tempo on 1/1 x", (0, 3)), ("tempo x", (0, 1)), ("tempo on on", (0, 2)), ("tempo on 1/0", (0, 2)), ("behind", (0, 1)), ("behind 1/1", (0, 2)), ("behind 1/1 1/1 ", (0, 3)),
                            ("strike", (0, 1)), ("strike 0", (0, 1)), ("strike 0@", (0, 1)), ("strike 0@0 0@1", (0, 2)), ("strike -@0", (0, 1)), ("strike 0 @ 0", (0, 1)), ("put block 0:" + "1" * 61, (0, 2))):
            self.refused(BadText, place, desk.run, text)
            self.refused(BadText, (place[0] + 1, place[1]), desk.run, "drop\n" + text)
            # Ahead of any DEED that cannot be done.
            self.refused(BadText, (place[0] + 3, place[1]), desk.run, "drop\ndrop\ndrop\n" + text)
        self.assertEqual(len(desk), 0)

    def test_what_is_told(self):
        desk = Desk(SCORE + (("again", 2, 3),), SLOW, PLAYED)
        self.assertEqual((desk.length(), desk.lasts()), (12, (26, 1)))
        for second in ((0, 1), (1, 3), (25, 2), (51, 2)):
            self.assertEqual(desk.heard(second), heard_at(desk.score, second, SLOW))
        for odd in NO_INTEGERS + (0, (-1, 1), (2, 2)):
            self.refused(BadFraction, odd, desk.heard, odd)
        self.refused(OutOfScore, (26, 1), desk.heard, (26, 1))
        self.assertEqual(desk.slips(0), least_slips(desk.score, 0, PLAYED))
        for odd in NO_INTEGERS + (-1, 1, 10 ** 900):
            self.refused(BadVoice, odd, desk.slips, odd)
            self.refused(BadVoice, odd, Desk(SCORE).slips, odd)
        self.assertIsNone(Desk(SCORE).slips(0))
        self.assertIsNone(Desk((("block", (((None, 2),),)),), STEADY, PLAYED).slips(0))
        desk.do(("strike", 20, 9))
        self.assertEqual(desk.slips(0), 1)
        desk.do(("hush",))
        self.assertIsNone(desk.slips(0))
        desk.do(("tempo", STEADY))
        self.assertEqual((desk.length(), desk.lasts()), (12, (12, 1)))
        great = Desk(VERY, SLOW)
        length = 6 * 1666 * 10 ** 36
        self.assertEqual((great.length(), great.lasts()), (length, (2 + 3 * (length - 4), 1)))

    def test_first_uses(self):
        seen = {"none": 0, "late": 0, "zero": 0}
        for start in range(250):
            numbers = making.Numbers(start + 87)
            score = making.score(numbers, 1 + numbers.below(2), 2 + numbers.below(11), 100)
            desk = Desk(score)
            for number in range(len(score)):
                told = first_use(score, number)
                self.assertEqual(desk.first_use(number), told, (score, number))
                seen["none" if told is None else "late" if told else "zero"] += 1
                if numbers.below(2):
                    other = Desk(score)
                    try:
                        other.do(("set", number, making.sign(numbers, number, len(score[0][1]))))
                    except BadDeed:
                        continue
                    # The fact of [911].
                    self.assertEqual(other.first_use(number), told)
                    parting = other.parting()
                    self.assertEqual(parting, first_parting(score, other.score))
                    if told is None:
                        self.assertIsNone(parting)
                    elif parting is not None:
                        self.assertGreaterEqual(parting[0], told)
        self.assertTrue(min(seen.values()) > 60, seen)
        desk = Desk(VERY[:4] + (B[:1] + ((((5, 1),), ((5, 1),)),), ("then", 3, 4), ("back", 5), ("ends", 5, (6, 6)), A[:1] + ((((0, 1),), ((0, 1),)),), ("slow", 7, 2)))
        half = 6 * 10 ** 36
        self.assertEqual([desk.first_use(number) for number in range(10)], [0, 0, 0, 0, 2 * half, 0, 2 * (half + 1), 0, None, 0])
        for odd in NO_INTEGERS + (-1, 10, 10 ** 900):
            self.refused(BadNumber, odd, desk.first_use, odd)
        self.assertEqual(Desk((A, ("back", 0))).first_use(0), 0)

    def test_partings(self):
        desk = Desk(SCORE)
        for odd in NO_INTEGERS + (-1, 1, 10 ** 900):
            self.refused(BadNumber, odd, desk.parting, odd)
        self.refused(BadNumber, 1, desk.parting)
        self.assertIsNone(desk.parting(0))
        desk.do(("put", ("again", 2, 10 ** 12)))
        self.assertEqual(desk.parting(), (4, None))
        desk.do(("set", 1, ("block", (((6, 1),),))))
        self.assertEqual((desk.parting(), desk.parting(2)), ((3, 0), (3, 0)))
        desk.do(("tempo", SLOW))
        self.assertEqual((desk.parting(), desk.parting(1), desk.parting(2), desk.parting(3), desk.parting(0)), (None, None, (3, 0), (3, 0), None))
        desk.do(("set", 0, ("block", (((0, 1), (None, 2)),))))
        self.assertEqual((desk.parting(), desk.parting(3)), ((1, 0), (1, 0)))
        desk.undo()
        self.assertIsNone(desk.parting())
        # What is never used does not matter.
        desk.run("put block 9:1\ndrop\nput block 9:2\nput then 2 2")
        self.assertEqual(desk.parting(4)[0], 8)
        self.assertEqual([desk.parting(many) for many in (1, 2, 3)], [(0, 0), (8, None), (0, 0)])
        for odd in (True, 8, -1, None):
            self.refused(BadNumber, odd, desk.parting, odd)

    def test_copies(self):
        desk = Desk(SCORE, SLOW, PLAYED)
        desk.run("put block 9:1\nhush")
        other = desk.copy()
        self.assertIsInstance(other, Desk)
        self.assertIsNot(other, desk)
        self.assertEqual((other, other.deeds(), len(other), other.text()), (desk, desk.deeds(), 2, desk.text()))
        other.undo()
        self.assertEqual((len(desk), desk.playing, other.playing), (2, None, PLAYED))
        desk.do(("drop",))
        self.assertEqual((other.score, other.tempo), (SCORE + (("block", (((9, 1),),)),), SLOW))
        other.undo()
        self.leads(other, SCORE, SLOW, PLAYED)
        with desk.trial():
            within = desk.copy()
            desk.undo(3)
        self.assertEqual((len(within), len(desk)), (3, 3))

    def test_equality(self):
        desk, other = Desk(SCORE), Desk(SCORE)
        self.assertTrue(desk == other and not desk != other)
        other.do(("put", B))
        self.assertTrue(desk != other and not desk == other)
        other.do(("drop",))
        self.assertTrue(desk == other and len(other) == 2)
        for third in (Desk(SCORE[:2]), Desk(SCORE, SLOW), Desk(SCORE, STEADY, PLAYED)):
            self.assertTrue(desk != third and third != desk)
        for odd in ODD + (0, SCORE, (SCORE, STEADY, None), desk.trial()):
            self.assertTrue(desk != odd and odd != desk and not desk == odd and not odd == desk)

        class Anything:
            def __eq__(self, one):
                return True

        self.assertFalse(desk == Anything())
        for call in (lambda: desk < other, lambda: desk + other, lambda: desk + 1, lambda: -desk, lambda: desk * 2, lambda: list(desk), lambda: iter(desk), lambda: 1 in desk, lambda: desk in desk,
                     lambda: desk[0], lambda: desk <= 3, lambda: desk | desk, lambda: [*desk]):
            self.assertRaises(TypeError, call)
        for name in ("score", "tempo", "playing"):
            with self.assertRaises(AttributeError):
                setattr(desk, name, getattr(desk, name))

    def test_trials(self):
        desk = Desk(SCORE, SLOW, PLAYED)
        desk.run("put block 9:1\nhush")
        before = (desk.score, desk.tempo, desk.playing, desk.deeds())

        def now():
            return (desk.score, desk.tempo, desk.playing, desk.deeds())

        trial = desk.trial()
        with trial as one:
            self.assertIs(one, desk)
            desk.do(("drop",))
            desk.do(("strike", 1, 1))
            self.assertEqual(len(desk), 4)
        self.assertEqual(now(), before)
        # The same object again, from what is led then.
        desk.do(("strike", 2, 2))
        later = now()
        with trial as one:
            self.assertIs(one, desk)
            desk.undo(3)
            desk.do(("tempo", STEADY))
        self.assertEqual(now(), later)
        for error in (BadDeed, KeyError, ZeroDivisionError, KeyboardInterrupt):
            with self.assertRaises(error):
                with trial:
                    desk.undo(2)
                    if error is BadDeed:
                        desk.do(("foo",))
                    raise error("x")
            self.assertEqual(now(), later)
        # One in the other.
        with desk.trial() as one:
            one.do(("hush",))
            middle = now()
            with self.assertRaises(ValueError):
                with desk.trial() as two:
                    self.assertIs(two, desk)
                    two.undo(4)
                    raise ValueError
            self.assertEqual(now(), middle)
            with trial:
                desk.undo(1)
                with desk.trial():
                    desk.undo(3)
                self.assertEqual(now(), later)
            self.assertEqual(now(), middle)
        self.assertEqual(now(), later)
        # One object even within its own block, and again behind it.
        with trial:
            desk.undo()
            middle = now()
            with trial:
                desk.undo()
            self.assertEqual(now(), middle)
            with trial:
                desk.do(("put", B))
            self.assertEqual(now(), middle)
        self.assertEqual(now(), later)
        for _ in range(3):
            with desk.trial():
                for _ in range(2):
                    desk.do(("tempo", STEADY))

        def leave():
            with desk.trial():
                desk.undo()
                return len(desk)

        self.assertEqual((leave(), now()), (2, later))
        for _ in range(3):
            with trial:
                desk.undo()
                break
        self.assertEqual(now(), later)

    def test_under(self):
        desk = Desk(SCORE)
        self.assertEqual(under(desk.trial(), lambda one: (one.do(("put", B)), one.score)[1]), SCORE + (B,))
        self.assertEqual((desk.score, len(desk)), (SCORE, 0))
        quiet = Quiet(desk)
        self.assertEqual(under(quiet, lambda one: one.length()), 4)
        self.assertIsNone(under(quiet, lambda one: one.do(("foo",))))
        self.assertIsNone(under(quiet, lambda one: None))
        self.assertEqual(quiet.went, ["in", None, "in", BadDeed, "in", None])
        with self.assertRaises(KeyError):
            under(quiet, lambda one: {}[0])
        with self.assertRaises(BadDeed) as caught:
            under(desk.trial(), lambda one: (one.do(("put", B)), one.do(("hush",))))
        self.assertEqual((caught.exception.place, len(desk)), ("playing", 0))
        self.assertEqual(under(Quiet(7), lambda one: one + 1), 8)
        # A desk under a manager that is quiet, in a trial.
        self.assertIsNone(under(desk.trial(), lambda one: under(Quiet(one), lambda two: two.undo())))
        calls = []
        self.assertEqual(under(desk.trial(), calls.append), None)
        self.assertIs(calls[0], desk)

    def test_many_deeds(self):
        """Against a list of what was led; texts that are run on a new desk lead the same."""
        counts = {"done": 0, "not": 0, "undone": 0}
        for start in range(120):
            numbers = making.Numbers(start + 3)
            first = making.score(numbers, 1 + numbers.below(3), 1 + numbers.below(4), 60)
            desk = Desk(first)
            led, deeds = [(first, STEADY, None)], []
            for _ in range(25):
                if numbers.below(6) == 0 and deeds:
                    many = 1 + numbers.below(len(deeds))
                    desk.undo(many)
                    led, deeds = led[:-many], deeds[:-many]
                    counts["undone"] += 1
                    continue
                deed = some_deed(numbers, desk)
                try:
                    desk.do(deed)
                except BadDeed as error:
                    counts["not"] += 1
                    with self.assertRaises(BadDeed) as caught:
                        desk.run(self.text_of(deed))
                    self.assertEqual(caught.exception.place, (0, error.place))
                else:
                    counts["done"] += 1
                    led.append((desk.score, desk.tempo, desk.playing))
                    deeds.append(deed)
                self.assertEqual((desk.score, desk.tempo, desk.playing), led[-1])
                self.assertEqual(desk.deeds(), tuple(deeds))
            other = Desk(first)
            other.run(desk.text())
            self.assertTrue(other == desk and other.deeds() == desk.deeds() and other.text() == desk.text())
            for many in range(len(deeds) + 1):
                self.assertEqual(desk.parting(many), first_parting(led[len(led) - 1 - many][0], desk.score))
        self.assertTrue(min(counts.values()) > 200, counts)

    def text_of(self, deed):
        """The text of a DEED, written from its words."""
        def quotient(pair):
            return "on" if pair is None else f"{pair[0]}/{pair[1]}"

        def sign(one):
            if one[0] == "block":
                return "block " + " | ".join(" ".join(f"{'-' if pitch is None else pitch}:{long}" for pitch, long in row) for row in one[1])
            return " ".join(str(part) for part in one[:2] + (one[2] if one[0] == "ends" else one[2:]))

        if deed[0] == "put":
            return "put " + sign(deed[1])
        if deed[0] == "set":
            return f"set {deed[1]} {sign(deed[2])}"
        if deed[0] in ("tempo", "behind"):
            return " ".join([deed[0]] + [f"{quotient(long)} {quotient(rate)}" for long, rate in deed[1]])
        return f"strike {deed[1]}@{deed[2]}" if deed[0] == "strike" else deed[0]

    def test_errors_of_new_desks(self):
        self.refused(BadScore, None, Desk, None, None, None)
        self.refused(BadScore, 1, Desk, (A, None))
        self.refused(TooMany, 200, Desk, TOO_MANY, None)
        for odd, place in ((None, "form"), ((), "form"), ((None,), 0), ((((1, 1), (1, 1)),), 0), (STEADY * 2, 0), ("on 1/1", "form"), (0, "form")):
            self.refused(BadTempo, place, Desk, SCORE, odd, 0)
        for odd in no_playings():
            if odd is not None:
                self.refused(BadPlaying, odd, Desk, SCORE, STEADY, odd)

    def test_what_is_passed_stays_as_it_is(self):
        rows = [["put", B]]
        desk = Desk(SCORE)
        self.refused(BadDeed, "form", desk.do, rows[0])
        self.assertEqual(rows, [["put", B]])
        self.assertEqual([self.same(desk.first_use, number) for number in range(3)], [0, 3, 0])
        self.assertEqual(desk.deeds(), ())
        for name in ("deeds", "text", "length", "lasts", "copy"):
            self.assertEqual(getattr(desk, name)(), getattr(desk, name)())


if __name__ == "__main__":
    unittest.main()

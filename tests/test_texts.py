"""Texts of six kinds, there and back, and the place of their first fault: [900] to [907], and tacthouse.texts."""

import unittest

from tacthouse.errors import BadInstrument, BadPlaying, BadRing, BadRule, BadScore, BadTempo, BadText, TooMany
from tacthouse.texts import (instrument_text, playing_text, read_instrument, read_playing, read_rhythm, read_rule, read_score,
                             read_tempo, rhythm_text, rule_text, score_text, tempo_text)
from tests import making, playing, ruling
from tests.refusing import ODD, Refusing
from tests.test_slips import no_playings
from tests.test_units import TOO_MANY, A

SCORE = (("block", (((0, 4), (None, 2), (7, 2)), ((None, 8),))), ("again", 0, 10 ** 12), ("up", 1, -3), ("turned", 2), ("back", 0), ("slow", 4, 2),
         ("ends", 0, (4, 5, 0)), ("then", 3, 6))
SCORE_TEXT = ("block 0:4 -:2 7:2 | -:8\nagain 0 1000000000000\nup 1 -3\nturned 2\nback 0\nslow 4 2\nends 0 4 5 0\nthen 3 6")
RULE = (2, ((((("apart", 0, 1, -3, 4), ("begins", 0)), 1, 1), ((("class", 1, 0, ()),), 0, 0), ((), 0, 0)),
            (((("class", 0, 1, (0, 7)), ("sounds", 1), ("silent", 0), ("pitch", 0, -120, 120)), 1, 0), ((("step", 1, 2, 2),), 0, 1), ((), 1, 1))))
RULE_TEXT = ("voices 2\nstate\napart 0 1 -3 4 & begins 0 to 1 fault\nclass 1 0 to 0\nany to 0\n"
             "state\nclass 0 1 0 7 & sounds 1 & silent 0 & pitch 0 -120 120 to 1\nstep 1 2 2 to 0 fault\nany to 1 fault")
TEMPO = (((1, 2), (3, 4)), ((10 ** 59, 7), (1, 1)), (None, (5, 3)))
TEMPO_TEXT = f"1/2 3/4\n{10 ** 59}/7 1/1\non 5/3"
HAND = (((-60, 0, 2), ()), ((0, 96), (1, 2)), ((10 ** 6, 0), (3, 4)))
HAND_TEXT = "place -60 0 2\nplace\nmoves 0 96\nmoves 1 2\nprices 1000000 0\nprices 3 4"
READERS = (read_score, read_rhythm, read_tempo, read_rule, read_instrument, read_playing)
WORDS = ("block", "then", "0:1", "-:2", "|", "0", "-3", "on", "1/2", "x.", "voices", "state", "any", "to", "&", "fault", "sounds", "class", "place", "moves", "prices",
         "0@1", "ends", "up", "", "00", "-", "1/0")


class Texts(Refusing, unittest.TestCase):
    def there_and_back(self, write, read, thing, text):
        self.assertEqual(self.same(write, thing), text)
        self.assertEqual(self.same(read, text), thing)
        self.assertEqual(write(read(text)), text)

    def fault(self, read, text, place):
        """A text that has not the form, its first fault being at this place."""
        self.refused(BadText, place, read, text)

    def test_arguments(self):
        self.assertEqual(score_text(score=SCORE), SCORE_TEXT)
        self.assertEqual(read_score(text=SCORE_TEXT), SCORE)
        self.assertEqual(rhythm_text(rhythm=(3, (0, 2))), "x.x")
        self.assertEqual(read_rhythm(text="x.x"), (3, (0, 2)))
        self.assertEqual(tempo_text(tempo=TEMPO), TEMPO_TEXT)
        self.assertEqual(read_tempo(text=TEMPO_TEXT), TEMPO)
        self.assertEqual(rule_text(rule=RULE), RULE_TEXT)
        self.assertEqual(read_rule(text=RULE_TEXT), RULE)
        self.assertEqual(instrument_text(instrument=HAND), HAND_TEXT)
        self.assertEqual(read_instrument(text=HAND_TEXT), HAND)
        self.assertEqual(playing_text(playing=((0, 1), (-60, 30))), "0@1 -60@30")
        self.assertEqual(read_playing(text="0@1 -60@30"), ((0, 1), (-60, 30)))

    def test_there_and_back(self):
        self.there_and_back(score_text, read_score, SCORE, SCORE_TEXT)
        self.there_and_back(tempo_text, read_tempo, TEMPO, TEMPO_TEXT)
        self.there_and_back(rule_text, read_rule, RULE, RULE_TEXT)
        self.there_and_back(instrument_text, read_instrument, HAND, HAND_TEXT)
        for rhythm, text in (((1, (0,)), "x"), ((8, (0, 3, 6)), "x..x..x."), ((96, (95,)), "." * 95 + "x")):
            self.there_and_back(rhythm_text, read_rhythm, rhythm, text)
        for played, text in ((((0, 0),), "0@0"), (((60, 0), (-60, 10 ** 9)), "60@0 -60@1000000000")):
            self.there_and_back(playing_text, read_playing, played, text)
        self.there_and_back(tempo_text, read_tempo, ((None, (1, 1)),), "on 1/1")
        self.there_and_back(rule_text, read_rule, (1, ((((), 0, 0),),)), "voices 1\nstate\nany to 0")
        self.there_and_back(instrument_text, read_instrument, (((),), ((0,),), ((0,),)), "place\nmoves 0\nprices 0")
        self.there_and_back(score_text, read_score, (A,), "block 0:2 -:1")

    def test_many_there_and_back(self):
        for start in range(150):
            numbers = making.Numbers(start + 1234)
            score = making.score(numbers, 1 + numbers.below(4), 1 + numbers.below(20))
            self.assertEqual(read_score(self.same(score_text, score)), score)
            self.assertEqual(score_text(score).count("\n"), len(score) - 1)
            rule = ruling.rule(numbers, 1 + numbers.below(4), 1 + numbers.below(6), parts=4)
            self.assertEqual(read_rule(self.same(rule_text, rule)), rule)
            made = playing.instrument(numbers, 1 + numbers.below(6))
            self.assertEqual(read_instrument(self.same(instrument_text, made)), made)
            beats = 1 + numbers.below(96)
            rhythm = (beats, tuple(sorted({numbers.below(beats) for _ in range(20)})))
            self.assertEqual(read_rhythm(self.same(rhythm_text, rhythm)), rhythm)

    def test_what_is_no_text(self):
        for read in READERS:
            for odd in ODD + (0, b"x", ["x"], ("x",)):
                if odd not in ("", "0", "block"):
                    self.refused(BadText, None, read, odd)

    def test_empty_texts_and_lines(self):
        for read in READERS:
            for text in ("", "\n", " ", "\n\n"):
                self.fault(read, text, (0, 0))
        for read, text in ((read_score, SCORE_TEXT), (read_tempo, TEMPO_TEXT), (read_rule, RULE_TEXT), (read_instrument, HAND_TEXT), (read_rhythm, "x.x"), (read_playing, "0@0")):
            many = text.count("\n") + 1
            self.fault(read, text + "\n", (many, 0))
            self.fault(read, "\n" + text, (0, 0))
            self.fault(read, " " + text, (0, 0))
            self.fault(read, text + " ", (many - 1, len(text.split("\n")[-1].split(" "))))
            self.fault(read, text + "\n" + " ", (many, 0))
            self.fault(read, text + "\nfoo", (many, 0))

    def test_faults_of_scores(self):
        for text, place in (("foo", (0, 0)), ("Block 0:1", (0, 0)), ("block", (0, 1)), ("block 0:1 ", (0, 2)), ("block  0:1", (0, 1)), ("block |", (0, 1)), ("block | 0:1", (0, 1)),
                            ("block 0:1 |", (0, 3)), ("block 0:1 | |", (0, 3)), ("block 0:1 | 0:1 |", (0, 5)), ("block 0:1|0:1", (0, 1)), ("block 0:1 || 0:1", (0, 2)),
                            ("block 0", (0, 1)), ("block 0:", (0, 1)), ("block :1", (0, 1)), ("block :", (0, 1)), ("block 0:1:1", (0, 1)), ("block --:1", (0, 1)), ("block -0:1", (0, 1)),
                            ("block 0:-", (0, 1)), ("block -", (0, 1)), ("block 0:01", (0, 1)), ("block 0:1 x:1", (0, 2)), ("block 0:1 | -:x", (0, 3)), ("block None:1", (0, 1)),
                            ("block +1:1", (0, 1)), ("block 1_0:1", (0, 1)), ("block 0:1 then", (0, 2)),
                            ("then", (0, 1)), ("then 0", (0, 2)), ("then 0 0 0", (0, 3)), ("then 0 0 ", (0, 3)), ("then x 0", (0, 1)), ("then 0 x", (0, 2)), ("again 0 1.0", (0, 2)),
                            ("again 0", (0, 2)), ("up 0 +3", (0, 2)), ("up", (0, 1)), ("turned", (0, 1)), ("turned 0 0", (0, 2)), ("back", (0, 1)), ("back 0 1", (0, 2)),
                            ("slow 0", (0, 2)), ("slow 0 2 2", (0, 3)), ("ends", (0, 1)), ("ends 0", (0, 2)), ("ends 0 x", (0, 2)), ("ends 0 0 |", (0, 3)), ("ends 0 0 ", (0, 3))):
            self.fault(read_score, text, place)
            self.fault(read_score, "block 0:1\n" + text, (1, place[1]))
            self.fault(read_score, text + "\nfoo", place)

    def test_faults_of_rhythms(self):
        for text, place in (("X", (0, 0)), ("x,x", (0, 0)), ("x x", (0, 1)), ("x ", (0, 1)), (" x", (0, 0)), ("x.\nx.", (1, 0)), ("x.\n", (1, 0)), ("x y\nz", (0, 1)), ("x|", (0, 0)), ("0", (0, 0))):
            self.fault(read_rhythm, text, place)

    def test_faults_of_tempos(self):
        for text, place in (("on", (0, 1)), ("on 1", (0, 1)), ("1/1", (0, 1)), ("1/1 on", (0, 1)), ("on on", (0, 1)), ("on 1/1 1/1", (0, 2)), ("on 1/1 ", (0, 2)), ("1 1/1", (0, 0)),
                            ("1/1 1/0", (0, 1)), ("1/0 1/1", (0, 0)), ("1/-1 1/1", (0, 0)), ("1/1/1 1/1", (0, 0)), ("/1 1/1", (0, 0)), ("1/ 1/1", (0, 0)), ("On 1/1", (0, 0)),
                            ("1 / 1", (0, 0)), ("-/1 1/1", (0, 0)), ("1/01 1/1", (0, 0)), ("None 1/1", (0, 0))):
            self.fault(read_tempo, text, place)
            self.fault(read_tempo, "2/1 1/1\n" + text, (1, place[1]))

    def test_faults_of_rules(self):
        for text, place in (("voices", (0, 1)), ("voices x", (0, 1)), ("voices 1 1", (0, 2)), ("Voices 1", (0, 0)), ("state", (0, 0)), ("voices 1", (1, 0)), ("voices 1\nany to 0", (1, 0)),
                            ("voices 1\nstate x", (1, 1)), ("voices 1\nstate", (2, 0)), ("voices 1\nstate\nstate", (2, 0)), ("voices 1\nstate\nany to 0\nstate", (4, 0)),
                            ("voices 1\nstate\nany to 0\nstate\nstate", (4, 0)), ("voices 1\nstate\nany to 0\nvoices 1", (3, 0)), ("voices 1\nstate\nany to 0\nstate 1\nany to 0", (3, 1))):
            self.fault(read_rule, text, place)
        ahead = "voices 1\nstate\n"
        for text, place in (("any", 1), ("any to", 2), ("any 0", 1), ("any & any to 0", 1), ("any to x", 2), ("any to 0 1", 3), ("any to 0 fault fault", 4), ("any to 0 Fault", 3), ("any to 0 ", 3),
                            ("to 0", 0), ("& any to 0", 0), ("fault", 0), ("sounds", 1), ("sounds to 0", 1), ("sounds 0", 2), ("sounds 0 0 to 0", 2), ("sounds 0 &", 3), ("sounds 0 & to 0", 3),
                            ("sounds 0 & any to 0", 3), ("sounds 0 & & sounds 0 to 0", 3), ("sounds 0 sounds 0 to 0", 2), ("sounds 0 & sounds 1", 5), ("silent x to 0", 1), ("begins to 0", 1),
                            ("pitch 0 1 to 0", 3), ("pitch 0 1 2 3 to 0", 4), ("apart 0 1 2 to 0", 4), ("apart 0 1 2 3 4 to 0", 5), ("step 0 1 to 0", 3), ("class 0 to 0", 2), ("class to 0", 1),
                            ("class 0 1 x to 0", 3), ("class 0 1 2", 4), ("class 0 1 2 & to 0", 5), ("class 0 1 2 fault", 4), ("class 0 1 2 class 0 1 to 0", 4), ("loud 0 to 0", 0), ("sounds 0  to 0", 2)):
            self.fault(read_rule, ahead + text, (2, place))
            self.fault(read_rule, ahead + "any to 0\n" + text, (3, place))
            self.fault(read_rule, ahead + "any to 0\nstate\n" + text, (4, place))

    def test_faults_of_instruments(self):
        for text, place in (("place", (1, 0)), ("place\nplace 1", (2, 0)), ("place\nmoves", (2, 0)), ("moves", (0, 0)), ("prices", (0, 0)), ("place\nprices", (1, 0)), ("place\nmoves\nplace", (2, 0)),
                            ("place\nmoves\nprices\nmoves", (3, 0)), ("place\nmoves\nprices\nplace", (3, 0)), ("place x", (0, 1)), ("place 0 x 1", (0, 2)), ("place ", (0, 1)), ("place 0 ", (0, 2)),
                            ("place\nmoves 0 y", (1, 2)), ("place\nmoves\nprices 1 2 z", (2, 3)), ("place\n\nmoves", (1, 0)), ("place\nmoves\nprices 1\nprices -", (3, 1)), ("Place", (0, 0)), ("place 1/2", (0, 1))):
            self.fault(read_instrument, text, place)

    def test_faults_of_playings(self):
        for text, place in (("0", (0, 0)), ("0@", (0, 0)), ("@0", (0, 0)), ("-@0", (0, 0)), ("0@0@0", (0, 0)), ("0@0 0", (0, 1)), ("0@0 ", (0, 1)), ("0@0  1@1", (0, 1)), ("0@0\n1@1", (1, 0)), ("0@0 x@1", (0, 1)),
                            ("0@0\n", (1, 0)), ("0:0", (0, 0)), ("0 @ 0", (0, 0)), ("0@01", (0, 0)), ("0@0 x\n", (0, 1))):
            self.fault(read_playing, text, place)

    def test_numbers(self):
        """At most 60 figures, without a needless 0."""
        great, less = "9" * 60, "-" + "9" * 60
        self.refused(BadScore, 0, read_score, f"up {great} {less}")
        self.fault(read_score, f"up {great}9 {less}", (0, 1))
        self.fault(read_score, f"up {great} {less}9", (0, 2))
        self.refused(BadScore, 0, read_score, f"block {less}:{great}")
        self.fault(read_score, f"block {less}:{great}0", (0, 1))
        self.fault(read_score, f"block {less}0:{great}", (0, 1))
        self.assertEqual(read_tempo(f"{great}/10 1/{great}\non 1/1")[0], ((int(great), 10), (1, int(great))))
        self.fault(read_tempo, f"{great}1/7 1/1", (0, 0))
        self.fault(read_tempo, f"1/7 1/{great}1", (0, 1))
        self.refused(BadPlaying, ((0, int(great)),), read_playing, f"0@{great}")
        self.fault(read_playing, f"0@{great}0", (0, 0))
        for word in ("00", "01", "-0", "-00", "-01", "+1", "1.", "", "-", "--1", "1-", "1e3", " 1", "0x1", "1_000", "one", "0" * 60):
            self.fault(read_rule, f"voices {word}", (0, 1))
            self.fault(read_playing, f"0@{word}", (0, 0))
        self.refused(BadRule, (10 ** 59, ((((), 0, 0),),)), read_rule, f"voices {10 ** 59}\nstate\nany to 0")

    def test_texts_that_tell_no_such_thing(self):
        for text, place in (("then 0 0", 0), ("block 0:1\nthen 0 1", 1), ("block 0:1 | 0:2", 0), ("block 61:1", 0), ("block 0:97", 0), ("block 0:0", 0), ("block 0:-1", 0), ("block 0:1\nagain 0 0", 1),
                            ("block 0:1\nup 0 25", 1), ("block 0:1\nslow 0 4", 1), ("block 0:1\nends 0 0 0 0 0 0", 1), ("block 0:1\nblock 0:1 | 0:1", 1), ("block 0:1\nturned -1", 1),
                            ("block " + "0:1 " * 12 + "0:1", 0), ("block 0:1 | 0:1 | 0:1 | 0:1 | 0:1", 0), ("\n".join(["block 0:1"] * 41), None)):
            self.refused(BadScore, place, read_score, text)
        self.assertEqual(len(read_score("\n".join(["block 0:1"] * 40))), 40)
        self.refused(TooMany, 200, read_score, "\n".join(self.line_of(sign) for sign in TOO_MANY))
        self.refused(BadRing, (3, ()), read_rhythm, "...")
        self.refused(BadRing, (97, (0,)), read_rhythm, "x" + "." * 96)
        for text, place in (("1/1 1/1", 0), ("on 1/1\non 1/1", 0), ("2/2 1/1\non 1/1", 0), ("0/1 1/1\non 1/1", 0), ("1/1 1/1\non 0/1", 1), ("-1/1 1/1\non 1/1", 0), ("on 2/4", 0), ("\n".join(["1/1 1/1"] * 40 + ["on 1/1"]), "form")):
            self.refused(BadTempo, place, read_tempo, text)
        any_state = (((), 0, 0),)
        for text, told in (("voices 0\nstate\nany to 0", (0, (any_state,))), ("voices 1\nstate\nany to 1", (1, ((((), 1, 0),),))), ("voices 1\nstate\nsounds 0 to 0", (1, ((((("sounds", 0),), 0, 0),),))),
                           ("voices 2\nstate\nclass 0 1 7 0 to 0\nany to 0", (2, ((((("class", 0, 1, (7, 0)),), 0, 0), ((), 0, 0)),))),
                           ("voices 1\nstate\n" + "sounds 0 & " * 4 + "sounds 0 to 0\nany to 0", (1, ((((("sounds", 0),) * 5, 0, 0), ((), 0, 0)),))),
                           ("voices 1" + "\nstate\nany to 0" * 7, (1, (any_state,) * 7)), ("voices 1\nstate\nany to 0\nany to -1", (1, ((((), 0, 0), ((), -1, 0)),)))):
            self.refused(BadRule, told, read_rule, text)
        for text, place in (("place 2 1\nmoves 0\nprices 0", "sounds"), ("place 1\nmoves 0 0\nprices 0", "moves"), ("place 1\nmoves 97\nprices 0", "moves"), ("place 1\nmoves 0\nprices 0\nprices 0", "prices"),
                            ("place 1\nmoves 0\nprices -1", "prices"), ("place\n" * 7 + "moves\nprices", "sounds"), ("place\nplace\nmoves\nprices", "moves"), ("place 1\nmoves 0\nprices", "prices")):
            self.refused(BadInstrument, place, read_instrument, text)
        for text, told in (("0@1 0@1", ((0, 1), (0, 1))), ("61@0", ((61, 0),)), ("0@-1", ((0, -1),)), (" ".join(f"0@{at}" for at in range(9)), tuple((0, at) for at in range(9)))):
            self.refused(BadPlaying, told, read_playing, text)

    def line_of(self, sign):
        if sign[0] == "block":
            return score_text((sign,))
        numbers = sign[1:2] + sign[2] if sign[0] == "ends" else sign[1:]
        return " ".join([sign[0]] + [str(number) for number in numbers])

    def test_what_cannot_be_written(self):
        self.refused(BadScore, None, score_text, None)
        self.refused(BadScore, 1, score_text, (A, None))
        self.refused(TooMany, 200, score_text, TOO_MANY)
        for odd in ODD + ((3, ()), (97, (0,)), [3, (0,)]):
            self.refused(BadRing, odd, rhythm_text, odd)
        for odd, place in ((None, "form"), ((), "form"), ((None,), 0), ((((1, 1), (1, 1)),), 0), (((None, (2, 2)),), 0)):
            self.refused(BadTempo, place, tempo_text, odd)
        for odd in ODD + tuple(ruling.no_rules()):
            self.refused(BadRule, odd, rule_text, odd)
        for odd, place in playing.no_instruments():
            self.refused(BadInstrument, place, instrument_text, odd)
        for odd in no_playings():
            self.refused(BadPlaying, odd, playing_text, odd)

    def test_the_first_fault_of_any_text(self):
        """Up to its place a text can be gone on with; with what stands there it cannot."""
        starts = {read_score: ("block 0:1", "block 0:1 | -:2", "then 0 1", "ends 1 2 3"), read_tempo: ("on 1/2", "1/2 3/4"), read_rhythm: ("x.x",), read_playing: ("0@1 2@3",),
                  read_rule: ("voices 1\nstate\nany to 0", "voices 1\nstate\nsounds 0 & class 0 1 2 to 0 fault", "voices 1\nstate\nany to 0\nstate\nany to 0"),
                  read_instrument: ("place 1\nmoves 0\nprices 0", "place\nplace 0 1\nmoves\nprices 0\nprices 1")}
        for read, texts in starts.items():
            for text in texts:
                rows = [row.split(" ") for row in text.split("\n")]
                for row in range(len(rows)):
                    for at in range(len(rows[row]) + 1):
                        for word in WORDS:
                            for kept in (rows[row][at:], rows[row][at + 1:]):
                                fresh = rows[:row] + [rows[row][:at] + [word] + kept] + rows[row + 1:]
                                self.look(read, fresh)

    def look(self, read, rows):
        text = "\n".join(" ".join(row) for row in rows)
        try:
            read(text)
        except BadText as error:
            row, at = error.place
            self.assertTrue(row < len(rows) and at <= len(rows[row]) or (row, at) == (len(rows), 0), (text, error.place))
            # What stands ahead of the place has no fault of its own: cut off there it only wants more.
            ahead = "\n".join([" ".join(one) for one in rows[:row]] + ([" ".join(rows[row][:at])] if at else []))
            if at or row:
                self.assertIn(self.place_of(read, ahead), (None, (row, at), (row + 1, 0)), (text, ahead))
        except ValueError:
            pass

    def place_of(self, read, text):
        try:
            read(text)
        except BadText as error:
            return error.place
        except ValueError:
            pass
        return None


if __name__ == "__main__":
    unittest.main()

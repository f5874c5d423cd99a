"""The whole program: calls of all modules in one row, [0] to [4]."""

import importlib
import inspect
import unittest

from tacthouse import errors
from tacthouse.desk import Desk
from tests import interface

SCORE = (("block", (((0, 2), (None, 1), (4, 1)), ((7, 4),))), ("again", 0, 6), ("up", 1, 3), ("turned", 2), ("ends", 1, (0, 2)), ("back", 4), ("slow", 5, 2), ("then", 6, 3))
OTHER = SCORE[:1] + (("again", 0, 7),) + SCORE[2:]
TEMPO, STEADY = (((7, 2), (1, 2)), (None, (3, 1))), ((None, (1, 1)),)
RHYTHM, FLOORS = (8, (0, 1, 4, 5)), (12, (0, 2, 4))
LOG = ((((1, 1), (2, 1), ((0, 1), (5, 1))), ((1, 2), (1, 1), ((1, 1), (4, 1)))), (((0, 0), (1, 1), (0, 1), (9, 1)),))
CLOCKS = (((9, 10), (11, 10)), ((1, 1), (1, 1)))
RINGERS = (((4, (0, 1)), (0, 1), (1, 2)), ((3, (0,)), (1, 2), (1, 1)))
RULE = (2, (((((("class", 0, 1, (0, 5, 8, 9)),), 0, 0), ((("sounds", 0),), 0, 1), ((), 0, 0))),))
LEAST = (2, (((((("sounds", 0), ("sounds", 1)), 0, 0), ((), 0, 0))),))
OPEN = (2, (((((("sounds", 0), ("silent", 1)), 0, 1), ((), 0, 0))),))
LINE = ((0, 2), (None, 1), (5, 3))
HAND = ((tuple(range(-12, 12)), (-60, 0, 3, 4, 7)), ((0, 1), (0, 0)), ((2, 5), (1, 3)))
PLAYERS = ((-60, 60, 0), (-60, 60, 0), (0, 20, 2))
PLAYED = ((0, 0), (4, 7), (0, 8))
GAIT = ((1, 1), (5, 2), 1)
TABLE = tuple((at % 3 - 1, 0, at % 2, 0) for at in range(49))
SCALE = (12, 19, 28, 34)
RATIOS = ((-4, 4, -1, 0), (7, 0, -3, 0))
SONG, GOOD = (0, 4, 0), (0, 3, 4, 8, 9)
TALL = ((("block", (((0, 1), (None, 1)),)), ("again", 0, 9)), (0, 3, 2))
CALL = ("rest", "begin", "on")


def fault_of(call, *args):
    """The class and the fields of the exception that a call raises, or None; and what it returns."""
    try:
        return None, call(*args)
    except (errors.TactError, errors.NoTimes, errors.TooMany) as error:
        return type(error).__name__, vars(error)


class Row:
    """Calls in one row, each with what the document calls its arguments, some of what was told ahead."""

    def __init__(self):
        self.called, self.told = {}, []

    def call(self, module, name, *args):
        done = getattr(importlib.import_module("tacthouse." + module), name)
        self.called[f"tacthouse.{module}.{name}"] = done
        before = repr(args)
        told = fault_of(done, *args)
        if before != repr(args):
            raise AssertionError((name, args))
        self.told.append((module, name, told))
        return told[1]

    def paper(self, module, write, check, *args):
        self.call(module, check, *args, self.call(module, write, *args))
        self.call(module, check, *args, ("foo",))

    def go(self):
        for part in (self.scores, self.rings, self.clocks, self.rules, self.rounds, self.tuning, self.hands, self.slips, self.texts):
            part()

    def scores(self):
        for name in ("need_score", "voices_of", "sign_lengths", "asked_signs", "unfolded"):
            self.call("scores", name, SCORE)
        for name, last in (("note_count", ()), ("begin_of", (3,)), ("next_begin", (5,)), ("sound_at", (9,)), ("sounding", ())):
            self.call("sounds", name, SCORE, 1, *last)
        self.call("sounds", "heard_all", SCORE, 17)
        self.call("sounds", "sound_at", SCORE, 1, -1)
        for name in ("are_alike", "first_parting"):
            self.call("alike", name, SCORE, OTHER)
        self.paper("alike", "alike_paper", "check_alike", SCORE, SCORE)
        self.paper("alike", "alike_paper", "check_alike", SCORE, OTHER)

    def rings(self):
        for name in ("is_rhythm", "mirrored", "left_of", "gaps_of", "form_of", "content_of", "period_of", "is_even"):
            self.call("rings", name, RHYTHM)
        self.call("rings", "turned", RHYTHM, -3)
        self.call("rings", "even_rhythm", 8, 3)
        self.paper("rings", "even_paper", "check_even", RHYTHM)
        self.call("entries", "are_entries", RHYTHM, (1, 7))
        self.call("entries", "fair_floors", RHYTHM, 2)
        self.call("entries", "is_fair_pair", FLOORS, 2, 1, 3, 1)
        self.call("entries", "entries_of", RHYTHM)
        self.paper("entries", "entries_paper", "check_entries", RHYTHM)
        self.call("laid", "laid", SCORE, 0, 7)
        self.call("laid", "strikes_once", SCORE, 0, 7)

    def clocks(self):
        self.call("tempos", "need_tempo", TEMPO)
        self.call("tempos", "tempo_at", TEMPO, (9, 2))
        self.call("tempos", "plain_tempo", TEMPO)
        self.call("tempos", "tempo_back", TEMPO)
        self.call("tempos", "tempo_behind", TEMPO, STEADY)
        self.call("tempos", "is_never_ahead", TEMPO, STEADY)
        self.paper("tempos", "ahead_paper", "check_ahead", TEMPO, STEADY)
        self.call("timed", "begin_at", SCORE, 0, 4, TEMPO)
        self.call("timed", "heard_at", SCORE, (13, 3), TEMPO)
        self.call("timed", "nearest_gap", SCORE, 0, TEMPO)
        self.call("timed", "widest_gap", SCORE, 0, TEMPO)
        paces = tuple((1 + at, 2 + 3 * at) if at % 2 else (1, 1) for at in range(len(SCORE)))
        self.call("timed", "paced_length", SCORE, paces)
        self.call("timed", "paced_begin", SCORE, 0, 4, paces)
        for name in ("need_log", "log_moments", "log_steps", "can_be"):
            self.call("logs", name, LOG)
        self.paper("logs", "log_paper", "check_log", LOG)
        self.call("logs", "do_fit", LOG, self.call("logs", "log_paper", LOG)[1])
        self.call("logs", "most_behind", LOG, (0, 0), (1, 0))
        self.paper("logs", "most_paper", "check_most", LOG, (0, 0), (1, 0))
        self.marks()

    def marks(self):
        self.call("marks", "clock_drift", CLOCKS)
        self.call("marks", "first_apart", SCORE, TEMPO, CLOCKS, (1, 2), (0, 5))
        self.call("marks", "least_marks", SCORE, TEMPO, CLOCKS, (1, 2))
        self.call("marks", "latest_mark", SCORE, TEMPO, CLOCKS, (1, 2), 0)
        for name in ("begin_marks", "begin_bar"):
            self.call("marks", name, SCORE, (0, 1), (1, 1), CLOCKS, (1, 2))
        self.call("ringers", "does_strike", RINGERS[0], (5, 2))
        for name in ("common_round", "many_meets"):
            self.call("ringers", name, RINGERS)
        self.call("ringers", "first_meet", RINGERS, (1, 1))
        self.call("ringers", "meet_at", RINGERS, (1, 1), 10)
        self.call("ringers", "meets_between", RINGERS, (1, 1), (99, 2))
        self.paper("ringers", "meet_paper", "check_meet", RINGERS)
        for name in ("nearest_strokes", "dodges"):
            self.call("ringers", name, *RINGERS)
        self.call("ringers", "first_doubt", *RINGERS, (9, 10), (1, 1), (0, 1))

    def rules(self):
        self.call("rulings", "need_rule", RULE)
        self.call("rulings", "is_plain", RULE)
        self.call("rulings", "faces_of", RULE, LEAST)
        self.call("faults", "state_ahead", SCORE, RULE, 12)
        for name in ("many_faults", "is_kept"):
            self.call("faults", name, SCORE, RULE)
        self.call("faults", "fault_at", SCORE, RULE, 0)
        self.paper("faults", "kept_paper", "check_kept", SCORE, RULE)
        self.paper("faults", "kept_paper", "check_kept", SCORE, LEAST)
        for one, other in ((RULE, LEAST), (LEAST, RULE)):
            self.call("follows", "does_follow", one, other)
            self.paper("follows", "follow_paper", "check_follow", one, other)
        self.call("follows", "is_kept_by", RULE, (LINE, LINE))
        for name in ("does_hold", "least_ticks"):
            self.call("games", name, RULE)
        self.paper("games", "game_paper", "check_game", RULE)
        self.call("games", "answer_to", RULE, LINE)
        self.call("calls", "is_answered", OPEN, CALL)
        self.call("calls", "are_all_answered", OPEN)
        self.paper("calls", "call_paper", "check_call", OPEN)
        for name in ("least_faults", "can_be_kept"):
            self.call("choices", name, SCORE, ((2, 1),), RULE)

    def rounds(self):
        self.call("units", "unit_of", SCORE, 0, 6)
        self.call("units", "board_of", SCORE, 0, 6)
        self.call("units", "most_singers", *TALL)
        self.call("distances", "pairs_of", *TALL, 2)
        for name in ("is_clean", "first_clash"):
            self.call("distances", name, *TALL[:2], GOOD, 2)
        self.call("rounds", "wanted_rests", SCORE, SONG)
        for name in ("are_all_clean", "least_clash"):
            self.call("rounds", name, SCORE, SONG, GOOD)
        self.paper("rounds", "round_paper", "check_round", SCORE, SONG, GOOD)
        self.paper("rounds", "round_paper", "check_round", SCORE, SONG, tuple(range(12)))
        self.call("ostinatos", "clean_shifts", SCORE, 0, LINE, GOOD)
        self.call("ostinatos", "ostinato_clash", SCORE, 0, LINE, GOOD, 2)

    def tuning(self):
        self.call("scales", "is_scale", SCALE)
        self.call("scales", "steps_of", SCALE, RATIOS[0])
        self.call("scales", "evens_out", SCALE, RATIOS)
        self.call("scales", "least_steps", RATIOS)
        self.paper("scales", "scale_paper", "check_scale", RATIOS)
        self.paper("scales", "scale_paper", "check_scale", ((3, 0, 0, 0),))
        for name in ("whole_drift", "drift_range"):
            self.call("drift", name, SCORE, 0, TABLE, SCALE)
        self.call("drift", "drift_behind", SCORE, 0, TABLE, SCALE, 5)

    def hands(self):
        self.call("hands", "need_instrument", HAND)
        for name in ("least_price", "price_table"):
            self.call("hands", name, SCORE, 0, HAND)
        self.call("hands", "place_at", SCORE, 0, HAND, 5)
        told = self.call("hands", "fingering", SCORE, 0, HAND)
        for name in ("is_fingering", "price_of"):
            self.call("hands", name, SCORE, 0, HAND, told)
        self.paper("hands", "hand_paper", "check_hand", SCORE, 0, HAND)
        for name in ("round_table", "least_mean"):
            self.call("means", name, SCORE, 0, HAND)
        self.call("means", "again_price", SCORE, 0, HAND, 10 ** 30)
        self.paper("means", "mean_paper", "check_mean", SCORE, 0, HAND)
        self.call("players", "need_players", PLAYERS)
        self.call("players", "greatest_crowd", SCORE)
        self.call("players", "can_share", SCORE, PLAYERS)
        self.call("players", "rests_behind", SCORE, PLAYERS, (0, 0, 1))
        self.call("players", "is_sharing", SCORE, PLAYERS, self.call("players", "sharing", SCORE, PLAYERS))

    def slips(self):
        for name in ("least_slips", "slip_places"):
            self.call("slips", name, SCORE, 0, PLAYED)
        note, match = self.call("slips", "best_match", SCORE, 0, PLAYED)
        self.call("slips", "check_match", SCORE, 0, PLAYED, note, match)
        self.call("slips", "slip_place_at", SCORE, 0, PLAYED, 0)
        self.call("slips", "slips_from", SCORE, 0, PLAYED, 3)
        played = tuple((7 - 2 * at, 8 * at) for at in range(1))
        self.call("playings", "many_starts", SCORE, 1, played)
        start = self.call("playings", "start_at", SCORE, 1, played, 0)
        self.call("playings", "is_in_time", SCORE, 1, played, start, GAIT)
        self.paper("playings", "time_paper", "check_time", SCORE, 1, played, start, GAIT)
        self.call("playings", "tightest", SCORE, 1, played, start, (1, 1), (2, 1))
        for name in ("in_time", "first_in_time"):
            self.call("playings", name, SCORE, 1, played, GAIT)

    def texts(self):
        for kind, thing in (("score", SCORE), ("rhythm", RHYTHM), ("tempo", TEMPO), ("rule", RULE), ("instrument", HAND), ("playing", PLAYED)):
            text = self.call("texts", kind + "_text", thing)
            self.call("texts", "read_" + kind, text)
            self.call("texts", "read_" + kind, text + "\n")
        self.call("desk", "under", Desk(SCORE).trial(), under_trial)


def under_trial(desk):
    """Deeds on a desk, with all that it tells then."""
    desk.run("put again 0 9\ntempo on 2/1\nstrike 0@0\nset 1 again 0 5")
    return (desk.score, desk.tempo, desk.playing, desk.deeds(), desk.text(), desk.length(), desk.lasts(), desk.heard((7, 2)), desk.first_use(0), desk.slips(0), desk.parting(4), len(desk))


def kinds_in(thing):
    """All kinds of values in what was told."""
    if isinstance(thing, tuple):
        return {"tuple"}.union(*[kinds_in(part) for part in thing])
    return {type(thing).__name__}


class Whole(unittest.TestCase):
    def test_all_calls_in_one_row(self):
        """Equal calls tell equal things, whatever was called between; what is passed stays as it is."""
        first, again = Row(), Row()
        first.go()
        again.go()
        self.assertEqual(first.told, again.told)
        listed = {f"{module}.{head.split('(')[0]}" for module, told in interface.LISTED.items() for head in told.split()}
        self.assertEqual(set(first.called), listed)

    def test_backwards(self):
        """In another order each call tells the same."""
        row, other = Row(), Row()
        row.go()
        for part in (other.texts, other.slips, other.hands, other.tuning, other.rounds, other.rules, other.clocks, other.rings, other.scores):
            part()
        self.assertEqual(sorted(map(repr, row.told)), sorted(map(repr, other.told)))

    def test_what_is_told(self):
        """Tuples, integers, words and such alone: nothing that could be changed later on."""
        row = Row()
        row.go()
        for module, name, (error, value) in row.told:
            if error is None:
                self.assertTrue(kinds_in(value) <= {"tuple", "int", "str", "bool", "NoneType"}, (module, name))

    def test_functions_take_what_is_listed(self):
        for module, told in interface.LISTED.items():
            for head in told.split():
                name, parameters = head[:-1].split("(")
                function = getattr(importlib.import_module(module), name)
                found = inspect.signature(function).parameters.values()
                self.assertEqual([one.name for one in found], parameters.split(","))
                self.assertTrue(all(one.kind is one.POSITIONAL_OR_KEYWORD and one.default is one.empty for one in found), name)
                self.assertEqual(function.__module__, module)


if __name__ == "__main__":
    unittest.main()

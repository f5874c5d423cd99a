"""The files of the package keep to LANGUAGE.md, as far as a script can see it."""

import ast
import unittest

from tests import language


class Language(unittest.TestCase):
    def test_no_faults(self):
        self.assertEqual(language.faults(), [])

    def test_faults_are_seen(self):
        """A check that sees nothing would be no check."""
        samples = {
            "import os\n": "L16", "from os import path\n": "L2", "A = [x for x in (1,)]\n": "L3",
            "def f(x):\n    return x / 2\n": "L7", "def f(x):\n    return 2 ** x\n": "L27",
            "def f(x):\n    return x is 3\n": "L20", "def f(hash):\n    return hash\n": "L15",
            "def f(x):\n    global A\n": "L6", "def f(x):\n    return any(y for y in x)\n": "L7",
            "def f(x):\n    return {1, 2, 3}\n": "L13", "def f(x):\n    for y in x:\n        x.append(y)\n": "L23",
            "def f(x):\n" + "    x += 1\n" * 40: "L10", "A = '" + "a" * 120 + "'\n": "L10", "A = 'type'\n": "L17",
            "def f(x):\n    x.mro = 1\n": "L17", "def f(x):\n    return x.format()\n": "L17",
            "def f(x):\n    return '%'\n": "L27", "def f(x):\n    return zip(x, x)\n": "L23",
            "def f(x):\n    y = set()\n    return y\n": "L24", "def f(__x):\n    return 1\n": "L12",
            "class A:\n    def a(self):\n        self.a = 1\n": "L18", "def f(x):\n    raise x.wrong()\n": "L19",
        }
        own = {"methods": set(), "attributes": {"a"}}
        for text, rule in samples.items():
            found = language.Checker("sample", text, own).run()
            self.assertTrue(any(f": {rule}: " in fault for fault in found), (text, found))

    def test_the_interface_is_defined_where_it_is_listed(self):
        listed = {
            "tacthouse.scores": "need_score(thing) voices_of(score) sign_lengths(score) asked_signs(score) unfolded(score)",
            "tacthouse.sounds": "note_count(score,voice) begin_of(score,voice,number) next_begin(score,voice,tick)"
                                " sound_at(score,voice,tick) heard_all(score,tick) sounding(score,voice)",
            "tacthouse.alike": "are_alike(one,other) first_parting(one,other) alike_paper(one,other)"
                               " check_alike(one,other,paper)",
            "tacthouse.rings": "is_rhythm(thing) turned(rhythm,number) mirrored(rhythm) left_of(rhythm) gaps_of(rhythm)"
                               " form_of(rhythm) content_of(rhythm) period_of(rhythm) even_rhythm(beats,strokes)"
                               " is_even(rhythm) even_paper(rhythm) check_even(rhythm,paper)",
            "tacthouse.entries": "are_entries(rhythm,thing) fair_floors(rhythm,prime)"
                                 " is_fair_pair(rhythm,prime,floor,other,far) entries_of(rhythm) entries_paper(rhythm)"
                                 " check_entries(rhythm,paper)",
            "tacthouse.laid": "laid(score,voice,beats) strikes_once(score,voice,beats)",
            "tacthouse.tempos": "need_tempo(thing) tempo_at(tempo,x) plain_tempo(tempo) tempo_behind(tempo,other)"
                                " tempo_back(tempo) is_never_ahead(tempo,other) ahead_paper(tempo,other)"
                                " check_ahead(tempo,other,paper)",
            "tacthouse.timed": "begin_at(score,voice,number,tempo) heard_at(score,second,tempo)"
                               " nearest_gap(score,voice,tempo) widest_gap(score,voice,tempo) paced_length(score,paces)"
                               " paced_begin(score,voice,number,paces)",
            "tacthouse.logs": "need_log(thing) log_moments(log) log_steps(log) do_fit(log,times) can_be(log)"
                              " log_paper(log) check_log(log,paper) most_behind(log,one,far) most_paper(log,one,far)"
                              " check_most(log,one,far,paper)",
            "tacthouse.marks": "clock_drift(clocks) first_apart(score,tempo,clocks,tol,marks)"
                               " least_marks(score,tempo,clocks,tol) latest_mark(score,tempo,clocks,tol,number)"
                               " begin_marks(score,voices,rate,clocks,tol) begin_bar(score,voices,rate,clocks,tol)",
            "tacthouse.ringers": "does_strike(one,second) common_round(ringers) many_meets(ringers)"
                                 " first_meet(ringers,second) meet_at(ringers,second,number)"
                                 " meets_between(ringers,second,other) meet_paper(ringers) check_meet(ringers,paper)"
                                 " nearest_strokes(one,other) dodges(one,other) first_doubt(one,other,low,high,mark)",
            "tacthouse.rulings": "need_rule(rule) is_plain(rule) faces_of(rule,other)",
            "tacthouse.faults": "state_ahead(score,rule,tick) many_faults(score,rule) is_kept(score,rule)"
                                " fault_at(score,rule,number) kept_paper(score,rule) check_kept(score,rule,paper)",
            "tacthouse.follows": "does_follow(rule,other) follow_paper(rule,other) check_follow(rule,other,paper)"
                                 " is_kept_by(rule,sounds)",
            "tacthouse.games": "does_hold(game) game_paper(game) check_game(game,paper) least_ticks(game)"
                               " answer_to(game,line)",
            "tacthouse.calls": "is_answered(game,call) are_all_answered(game) call_paper(game) check_call(game,paper)",
            "tacthouse.choices": "least_faults(score,choices,rule) can_be_kept(score,choices,rule)",
            "tacthouse.units": "unit_of(score,voice,delay) board_of(score,voice,delay) most_singers(score,song)",
            "tacthouse.distances": "pairs_of(score,song,number) is_clean(score,song,good,number)"
                                   " first_clash(score,song,good,number)",
            "tacthouse.rounds": "are_all_clean(score,song,good) wanted_rests(score,song) least_clash(score,song,good)"
                                " round_paper(score,song,good) check_round(score,song,good,paper)",
            "tacthouse.ostinatos": "clean_shifts(score,voice,ostinato,good)"
                                   " ostinato_clash(score,voice,ostinato,good,shift)",
            "tacthouse.scales": "is_scale(thing) steps_of(scale,ratio) evens_out(scale,ratios) least_steps(ratios)"
                                " scale_paper(ratios) check_scale(ratios,paper)",
            "tacthouse.drift": "whole_drift(score,voice,table,scale) drift_range(score,voice,table,scale)"
                               " drift_behind(score,voice,table,scale,number)",
            "tacthouse.hands": "need_instrument(thing) least_price(score,voice,instrument)"
                               " price_table(score,voice,instrument) place_at(score,voice,instrument,number)"
                               " fingering(score,voice,instrument) is_fingering(score,voice,instrument,value)"
                               " price_of(score,voice,instrument,fingering) hand_paper(score,voice,instrument)"
                               " check_hand(score,voice,instrument,paper)",
        }
        seen = {module: text for module, _, text in language.sources()}
        for module in listed:
            text = seen[module]
            heads = {node.name: [one.arg for one in node.args.args] for node in ast.parse(text).body
                     if isinstance(node, ast.FunctionDef)}
            for head in listed[module].split():
                name, parameters = head[:-1].split("(")
                self.assertEqual(heads.get(name), parameters.split(","), name)


if __name__ == "__main__":
    unittest.main()

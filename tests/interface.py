"""The functions of the interface, by the modules under which it lists them, with their parameters."""

LISTED = {
    "tacthouse.scores": "need_score(thing) voices_of(score) sign_lengths(score) asked_signs(score) unfolded(score)",
    "tacthouse.sounds": "note_count(score,voice) begin_of(score,voice,number) next_begin(score,voice,tick)"
                        " sound_at(score,voice,tick) heard_all(score,tick) sounding(score,voice)",
    "tacthouse.alike": "are_alike(one,other) first_parting(one,other) alike_paper(one,other)"
                       " check_alike(one,other,paper)",
    "tacthouse.rings": "is_rhythm(thing) turned(rhythm,number) mirrored(rhythm) left_of(rhythm) gaps_of(rhythm)"
                       " form_of(rhythm) content_of(rhythm) period_of(rhythm) even_rhythm(beats,strokes)"
                       " is_even(rhythm) even_paper(rhythm) check_even(rhythm,paper)",
    "tacthouse.entries": "are_entries(rhythm,thing) fair_floors(rhythm,prime)"
                         " is_fair_pair(rhythm,prime,floor,other,far) entries_of(rhythm) entries_paper(rhythm)"
                         " check_entries(rhythm,paper)",
    "tacthouse.laid": "laid(score,voice,beats) strikes_once(score,voice,beats)",
    "tacthouse.tempos": "need_tempo(thing) tempo_at(tempo,x) plain_tempo(tempo) tempo_behind(tempo,other)"
                        " tempo_back(tempo) is_never_ahead(tempo,other) ahead_paper(tempo,other)"
                        " check_ahead(tempo,other,paper)",
    "tacthouse.timed": "begin_at(score,voice,number,tempo) heard_at(score,second,tempo)"
                       " nearest_gap(score,voice,tempo) widest_gap(score,voice,tempo) paced_length(score,paces)"
                       " paced_begin(score,voice,number,paces)",
    "tacthouse.logs": "need_log(thing) log_moments(log) log_steps(log) do_fit(log,times) can_be(log)"
                      " log_paper(log) check_log(log,paper) most_behind(log,one,far) most_paper(log,one,far)"
                      " check_most(log,one,far,paper)",
    "tacthouse.marks": "clock_drift(clocks) first_apart(score,tempo,clocks,tol,marks)"
                       " least_marks(score,tempo,clocks,tol) latest_mark(score,tempo,clocks,tol,number)"
                       " begin_marks(score,voices,rate,clocks,tol) begin_bar(score,voices,rate,clocks,tol)",
    "tacthouse.ringers": "does_strike(one,second) common_round(ringers) many_meets(ringers)"
                         " first_meet(ringers,second) meet_at(ringers,second,number)"
                         " meets_between(ringers,second,other) meet_paper(ringers) check_meet(ringers,paper)"
                         " nearest_strokes(one,other) dodges(one,other) first_doubt(one,other,low,high,mark)",
    "tacthouse.rulings": "need_rule(rule) is_plain(rule) faces_of(rule,other)",
    "tacthouse.faults": "state_ahead(score,rule,tick) many_faults(score,rule) is_kept(score,rule)"
                        " fault_at(score,rule,number) kept_paper(score,rule) check_kept(score,rule,paper)",
    "tacthouse.follows": "does_follow(rule,other) follow_paper(rule,other) check_follow(rule,other,paper)"
                         " is_kept_by(rule,sounds)",
    "tacthouse.games": "does_hold(game) game_paper(game) check_game(game,paper) least_ticks(game)"
                       " answer_to(game,line)",
    "tacthouse.calls": "is_answered(game,call) are_all_answered(game) call_paper(game) check_call(game,paper)",
    "tacthouse.choices": "least_faults(score,choices,rule) can_be_kept(score,choices,rule)",
    "tacthouse.units": "unit_of(score,voice,delay) board_of(score,voice,delay) most_singers(score,song)",
    "tacthouse.distances": "pairs_of(score,song,number) is_clean(score,song,good,number)"
                           " first_clash(score,song,good,number)",
    "tacthouse.rounds": "are_all_clean(score,song,good) wanted_rests(score,song) least_clash(score,song,good)"
                        " round_paper(score,song,good) check_round(score,song,good,paper)",
    "tacthouse.ostinatos": "clean_shifts(score,voice,ostinato,good)"
                           " ostinato_clash(score,voice,ostinato,good,shift)",
    "tacthouse.scales": "is_scale(thing) steps_of(scale,ratio) evens_out(scale,ratios) least_steps(ratios)"
                        " scale_paper(ratios) check_scale(ratios,paper)",
    "tacthouse.drift": "whole_drift(score,voice,table,scale) drift_range(score,voice,table,scale)"
                       " drift_behind(score,voice,table,scale,number)",
    "tacthouse.hands": "need_instrument(thing) least_price(score,voice,instrument)"
                       " price_table(score,voice,instrument) place_at(score,voice,instrument,number)"
                       " fingering(score,voice,instrument) is_fingering(score,voice,instrument,value)"
                       " price_of(score,voice,instrument,fingering) hand_paper(score,voice,instrument)"
                       " check_hand(score,voice,instrument,paper)",
    "tacthouse.means": "round_table(score,voice,instrument) least_mean(score,voice,instrument)"
                       " again_price(score,voice,instrument,times) mean_paper(score,voice,instrument)"
                       " check_mean(score,voice,instrument,paper)",
    "tacthouse.players": "need_players(thing) greatest_crowd(score) can_share(score,players) rests_behind(score,players,state)"
                         " sharing(score,players) is_sharing(score,players,value)",
    "tacthouse.slips": "least_slips(score,voice,playing) best_match(score,voice,playing) slip_places(score,voice,playing)"
                       " slip_place_at(score,voice,playing,number) slips_from(score,voice,playing,note)"
                       " check_match(score,voice,playing,note,thing)",
    "tacthouse.playings": "many_starts(score,voice,playing) start_at(score,voice,playing,number)"
                          " is_in_time(score,voice,playing,note,gait) time_paper(score,voice,playing,note,gait)"
                          " check_time(score,voice,playing,note,gait,paper) tightest(score,voice,playing,note,low,high)"
                          " in_time(score,voice,playing,gait) first_in_time(score,voice,playing,gait)",
    "tacthouse.texts": "score_text(score) rhythm_text(rhythm) tempo_text(tempo) rule_text(rule) instrument_text(instrument)"
                       " playing_text(playing) read_score(text) read_rhythm(text) read_tempo(text) read_rule(text)"
                       " read_instrument(text) read_playing(text)",
    "tacthouse.desk": "under(manager,deed)",
}

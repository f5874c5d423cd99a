"""Rounds of any number of singers: whether all distances are clean, where the least clash is, and papers on that."""

from tacthouse.boards import Boards, as_told, span_by, true_boards
from tacthouse.errors import BadPaper, BadRound
from tacthouse.kinds import is_from_to, is_integer, is_row, is_worded
from tacthouse.nearest import Nearest
from tacthouse.reading import Reading
from tacthouse.signs import HIGHEST, lengths_of
from tacthouse.song import need_good, need_song, unit_by
from tacthouse.varied import asked_of, is_asked_for, parts_of, top_of


def need_level(score, song):
    """Refuses what is no SCORE, then what is no ROUND of it with UP 0."""
    need_song(score, song)
    if song[2] != 0:
        raise BadRound(song)


def units_by(score, song):
    """The UNIT and the SPAN of a ROUND, if it is not too great."""
    unit = unit_by(score, song[0], song[1])
    return unit, span_by(unit, song[1])


def boards_by(score, song):
    """The boards of a ROUND."""
    unit, span = units_by(score, song)
    return true_boards(score, song[0], unit, span)


def wanted_by(board):
    """The WANTED rests by a board, ascending."""
    rests = {}
    for places in board:
        for one, (first, _) in places.items():
            for other, (_, last) in places.items():
                if first < last:
                    rests[(one - other) % 12] = True
    return sorted(list(rests))


def is_board_clean(board, good):
    """Whether all WANTED rests by a board are good."""
    return all([rest in good for rest in wanted_by(board)])


def are_all_clean(score, song, good):
    """Whether all DISTANCES are clean."""
    need_level(score, song)
    need_good(good)
    return is_board_clean(boards_by(score, song).top_board(), good)


def wanted_rests(score, song):
    """The WANTED rests."""
    need_level(score, song)
    return tuple(wanted_by(boards_by(score, song).top_board()))


def least_clash(score, song, good):
    """The LEAST CLASH, or None."""
    need_level(score, song)
    need_good(good)
    return clash_by(score, song, good)


def clash_by(score, song, good):
    """The LEAST CLASH, or None, all being such."""
    unit, span = units_by(score, song)
    best = Nearest(score, song[0], unit, span, good).best()
    return None if best is None else (best[0] // span, sum(best) * unit)


def round_paper(score, song, good):
    """A PAPER on whether all DISTANCES are clean."""
    need_level(score, song)
    need_good(good)
    boards = boards_by(score, song)
    if not is_board_clean(boards.top_board(), good):
        return ("clash",) + clash_by(score, song, good)
    return ("clean", tuple([(varied, as_told(board)) for varied, board in boards.boards.items()]))


def check_round(score, song, good, paper):
    """The first word of a PAPER that holds."""
    need_level(score, song)
    need_good(good)
    unit, span = units_by(score, song)
    if is_worded(paper, "clean", 2):
        if not are_boards_clean(Boards(score, song[0], unit, span), good, paper[1]):
            raise BadPaper("clean")
        return "clean"
    if not is_worded(paper, "clash", 3):
        raise BadPaper("form")
    if not do_clash(score, song, good, paper[1], paper[2]):
        raise BadPaper("clash")
    return "clash"


def do_clash(score, song, good, number, tick):
    """Whether the 0-th singer and the one with this number clash at a tick, whatever these are."""
    if not is_integer(number) or number < 1 or not is_from_to(tick, number * song[1], lengths_of(score)[-1] - 1):
        return False
    reading = Reading(score, song[0])
    one, other = [reading.at_tick(at)[1] for at in (tick - number * song[1], tick)]
    return one is not None and other is not None and (one - other) % 12 not in good


def are_places(thing):
    """Whether a value has the form of what a BOARD has for one rest."""
    if not isinstance(thing, tuple):
        return False
    least = -HIGHEST
    for triple in thing:
        if not is_row(triple, 3, 3) or not is_from_to(triple[0], least, HIGHEST) or not is_integer(triple[2]):
            return False
        if not is_from_to(triple[1], 0, triple[2]):
            return False
        least = triple[0] + 1
    return True


def told_boards(asked, span, thing):
    """A dict of the boards that a value tells by VARIED SIGNS that are asked for; None if it has not the form."""
    if not isinstance(thing, tuple):
        return None
    told = {}
    for pair in thing:
        if not is_row(pair, 2, 2) or not is_asked_for(asked, pair[0]) or pair[0] in told:
            return None
        if not is_row(pair[1], span, span) or not all([are_places(places) for places in pair[1]]):
            return None
        told[pair[0]] = [{pitch: (first, last) for pitch, first, last in places} for places in pair[1]]
    return told


def is_within(board, wide):
    """Whether all of a board stands in a wider one."""
    for places, more in zip(board, wide):
        for pitch, (first, last) in places.items():
            if pitch not in more or more[pitch][0] > first or more[pitch][1] < last:
                return False
    return True


def are_boards_clean(boards, good, thing):
    """Whether a value is BOARDS, by which all DISTANCES are clean; by the Boards of the ROUND, with no board there."""
    told = told_boards(asked_of(boards.signs), boards.span, thing)
    if told is None or top_of(boards.signs) not in told:
        return False
    boards.boards = told
    for varied, board in told.items():
        if not all([part in told for part, _ in parts_of(boards.signs, varied)]):
            return False
        if not is_within(boards.built(varied), board):
            return False
    return is_board_clean(boards.top_board(), good)

"""Games: whether one voice can answer another one for ever, and how."""

from tacthouse.errors import BadPaper, BadRule, BadSounds
from tacthouse.faces import face_like
from tacthouse.kinds import is_row, is_worded
from tacthouse.lines import is_short_line, put_tick
from tacthouse.plays import FIRST, Play
from tacthouse.rulings import few_faces, is_plain_for, trial_parts

MOST_EVENTS = 200
WIDEST = 1000
LONGEST = 96


def play_of(game):
    """A GAME that can be played, if a value is one."""
    if not is_plain_for(game, 2):
        raise BadRule(game)
    return Play(game, few_faces((game,)))


def does_hold(game):
    """Whether the voice 1 holds."""
    return FIRST not in play_of(game).ranks()


def least_ticks(game):
    """The least number of ticks within which the voice 0 can make a fault, or None."""
    return play_of(game).ranks().get(FIRST)


def game_paper(game):
    """A PAPER on whether the voice 1 holds."""
    play = play_of(game)
    ranks = play.ranks()
    if FIRST not in ranks:
        return ("plan", play.plan(ranks))
    return ("ends", tuple(sorted([(place[0], place[1], rank) for place, rank in ranks.items()])))


def check_game(game, paper):
    """The first word of a PAPER that holds."""
    play = play_of(game)
    if is_worded(paper, "plan", 2):
        if not play.does_plan_hold(paper[1]):
            raise BadPaper("plan")
        return "plan"
    if not is_worded(paper, "ends", 2):
        raise BadPaper("form")
    if not play.do_ranks_hold(paper[1]):
        raise BadPaper("ends")
    return "ends"


def answer_to(game, line):
    """An answer to a line, None if the voice 1 does not hold."""
    play = play_of(game)
    if not is_row(line, 1, MOST_EVENTS) or not is_short_line(line, WIDEST, LONGEST):
        raise BadSounds(line)
    ranks = play.ranks()
    return None if FIRST in ranks else answer_by(game, play, ranks, line)


def answer_by(game, play, ranks, line):
    """An answer to a line, the first place having no rank."""
    place, below, answered = FIRST, 0, []
    for pitch, long in line:
        for tick in range(long):
            move = move_now(game, play, place, pitch, tick == 0, below)
            answer = play.answer_in(place, move, ranks)
            if answer[0] == "begin":
                below = 0 if answer[1] is None else pitch - answer[1]
            put_tick(answered, answer[0], below)
            place = play.behind(place, move, answer)
    return tuple(answered)


def move_now(game, play, place, pitch, is_first, below):
    """The MOVE by which the voice 0 has a PITCH, or None, at a tick, the voice 1 having had one ahead."""
    if pitch is None:
        return ("rest",)
    if not is_first:
        return ("on",)
    if not place[1][1]:
        return ("begin", None)
    return ("begin", face_like(trial_parts(game), play.faces, pitch - below))

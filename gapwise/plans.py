"""Books and plans of games, and games played."""

from gapwise.algebra import outside
from gapwise.bars import bars
from gapwise.codes import filled
from gapwise.errors import BadReply, NoMember
from gapwise.games import downs
from gapwise.making import is_in
from gapwise.maps import two_seconds, value_at
from gapwise.papers import is_paper, is_set_value, is_value
from gapwise.picks import is_bar_paper, judge_pick, picked_map, plenty
from gapwise.points import merged_points
from gapwise.products import firsts
from gapwise.ranking import Ranking, game_points
from gapwise.relating import is_pair, is_tied


def book(game):
    """A map of moves to lower places, one for each place of mine with a rank above 0, or a bar that forbids it."""
    R = downs(game)
    found = bars(R)
    if found:
        return found[0]
    return ("book", picked_map(R, merged_points(R[1], filled(R[1], plenty(R)))))


def judge_book(game, value):
    """The first fault of any value as a book or a bar, None if there is none."""
    R = downs(game)
    if is_paper(value, "book") and is_set_value(value[1]) and all([is_pair(row) for row in value[1][2]]):
        return book_fault(R, value[1])
    return judge_pick(R, value) if is_bar_paper(value, len(R[1]) + 1) else ("form",)


def book_fault(R, many):
    """What keeps a set of rows of two from being a book."""
    strange = outside(many, R)
    if strange is not None:
        return ("move", strange[1], strange[2])
    lacking = outside(firsts(R), firsts(many))
    if lacking is not None:
        return ("lacks", lacking)
    twice = two_seconds(many)
    return None if twice is None else ("twice", twice[0])


def ranking_with(game, points):
    return Ranking(game, merged_points(game_points(game), points), True)


def ranks_with(game, points):
    """The list of the sets of the places of rank 0, 1, and so on, if only moves of mine that are let count."""
    return ranking_with(game, points).told_sets()


def plan_with(game, points):
    """A map that has for each place of mine with a rank above 0, with the points, a place of a lower rank."""
    ranking, chosen = ranking_with(game, points), {}
    for tie in ranking.lowering():
        chosen.setdefault(tie[1], tie)
    return ranking.rows_of([chosen[key] for key in chosen])


def play(game, plan, place, replies):
    """The list of the places come to, from a place on, by a plan and by replies."""
    places, mine, moves, goal = game
    if not is_value(place) or not is_in(place, places):
        raise NoMember(place)
    course, taken = [place], 0
    while not is_in(place, goal):
        if is_in(place, mine):
            place = planned(plan, place)
            if place is None:
                return course
        elif taken == len(replies):
            return course
        else:
            if not is_value(replies[taken]) or not is_tied(moves, place, replies[taken]):
                raise BadReply(taken)
            place = replies[taken]
            taken += 1
        course.append(place)
    return course


def planned(plan, place):
    """The place that a plan tells, None if it tells none."""
    try:
        return value_at(plan, place)
    except NoMember:
        return None

"""Games: the ranks of places, and the places from which the goal can be kept off."""

from gapwise.families import opened
from gapwise.mixing import rest, shared
from gapwise.products import firsts
from gapwise.ranking import Ranking, game_points
from gapwise.relating import beside, tie_between


def ranks(game):
    """The list of the sets of the places of rank 0, 1, and so on."""
    return Ranking(game, game_points(game), False).told_sets()


def lost(game):
    """The set of the places without a rank."""
    return Ranking(game, game_points(game), False).rankless()


def judge_lost(game, value):
    """What keeps a set from being closed, None if nothing does."""
    places, mine, moves, goal = game
    many = opened(value)
    strange = rest(many, opened(places), None)
    if strange.told():
        return ("place", strange.example())
    goals = shared(many, opened(goal), None)
    if goals.told():
        return ("goal", goals.example())
    leading = tie_between(moves, shared(many, opened(mine), None), True, many, False)
    if leading is not None:
        return ("mine", *leading)
    his = shared(rest(many, opened(mine), None), opened(firsts(moves)), None)
    driven = rest(his, beside(moves, 2, many, None), None)
    return ("his", driven.example()) if driven.told() else None


def downs(game):
    """The set of the moves of mine from a place with a rank to one of a lower rank."""
    ranking = Ranking(game, game_points(game), False)
    return ranking.rows_of(ranking.lowering())

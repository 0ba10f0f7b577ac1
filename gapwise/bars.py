"""Bars: firsts of a set of rows of two, and choices of intervals that no second fits."""

from gapwise.codes import codes_of, gap_counts, passage
from gapwise.families import built
from gapwise.further import Spots
from gapwise.making import made, orbits
from gapwise.placing import placed
from gapwise.points import merged_points
from gapwise.products import firsts
from gapwise.values import support


def intervals(points, x):
    """For each gap of points how many intervals the points of x make of it."""
    return tuple([many + 1 for many in gap_counts(codes_of(support(x), points), len(points))])


def fitting(R, x, choice):
    """A second for x that fits the choice, None if there is none."""
    for spot in Spots(R).of(x):
        if spot.fits(choice):
            return spot.row_at(x, R[1])[2]
    return None


def bars(R):
    """The list of all bars at the values that stand for the orbits of the firsts."""
    spots = Spots(R)
    return [("bar", x, choice) for x in orbits(firsts(R), R[1]) for choice in barred_choices(spots, x)]


def barred_choices(spots, x):
    """The list of the choices at x that no second for x fits, ascending."""
    known = spots.of(x)
    choices = [()]
    for many in intervals(spots.points, x):
        choices = [(*choice, number) for choice in choices for number in range(many)]
    return [choice for choice in choices if not any([spot.fits(choice) for spot in known])]


def pickable(R):
    """The set of all firsts without a bar."""
    spots = Spots(R)
    return made(R[1], [x for x in orbits(firsts(R), R[1]) if not barred_choices(spots, x)])


def barred_at(R, bar, points):
    """A value alike to the bar's x such that no second for it has all its points among the set's, points and its own.

    All of points come to lie in the chosen intervals.
    """
    _, x, choice = bar
    together = merged_points(R[1], points)
    way = passage(R[1], together)
    codes, met = [], {}
    for code in codes_of(support(x), R[1]):
        gap = code // 2
        if code % 2 == 1:
            codes.append(way.spots[gap])
        else:
            ahead = met.get(gap, 0)
            codes.append(way.lows[gap] if ahead < choice[gap] else way.highs[gap])
            met[gap] = ahead + 1
    return built(placed(x, ()), tuple(codes), together)

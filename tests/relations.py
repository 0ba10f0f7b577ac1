"""What several tests of sets of pairs need: values on fine samples, and sets of rows of two made from a seed."""

from itertools import combinations

from gapwise.making import is_in, made, orbits
from gapwise.placing import led, placed, shape
from gapwise.points import merged_points, spread
from gapwise.products import pairs
from gapwise.values import support, value_text
from gapwise.webs import places
from tests.helping import HALVES, some_points

ZERO, HALF, ONE, TWO, THREE = (0, 1), (1, 2), (1, 1), (2, 1), (3, 1)


def further(points, many):
    """The points, and so many in each gap."""
    found = points
    for gap in range(len(points) + 1):
        found = merged_points(found, tuple(spread(points, gap, many)))
    return found


def values_on(values, sample):
    """All values alike, over no points, to one of values, with their points in a sample."""
    skeletons = {value_text(placed(value, ())): placed(value, ()) for value in values}
    found = []
    for skeleton in skeletons.values():
        held = support(skeleton)
        for chosen in combinations(sample, len(held)):
            found.append(led(skeleton, dict(zip(held, chosen))))
    return found


def some_part(chance, most):
    """A word, a point, a row of points or a set, with at most so many points."""
    draw = chance.random()
    if draw < 0.15 or most == 0:
        return chance.choice(["a", "b", ("set", (), ((0, 1),))])
    if draw < 0.65 or most == 1:
        point = chance.choice(HALVES)
        return point if chance.random() < 0.8 else made((point,), [(9, 1)])
    one, other = chance.sample(HALVES, 2)
    return ("row", one, other)


def some_pairs(chance, points, many, most=2):
    """A set of so many rows of two, or fewer, over these points or fewer."""
    return made(points, [("row", some_part(chance, most), some_part(chance, most)) for _ in range(many)])


def chosen_points(chance, value, points, other):
    """A value alike over points to other whose points are among points and those of value, None if there is none."""
    counts, own = shape(other, points), shape(value, points)
    if any(k > n for k, n in zip(counts, own)):
        return None
    table = {point: point for point in points}
    frees = [point for point in support(value) if point not in points]
    olds = [point for point in support(other) if point not in points]
    at = 0
    for gap in range(len(points) + 1):
        mine, olds_here = frees[:own[gap]], olds[at:at + counts[gap]]
        frees, at = frees[own[gap]:], at + counts[gap]
        table.update(zip(olds_here, sorted(chance.sample(range(len(mine)), len(olds_here)))))
        table.update({old: mine[table[old]] for old in olds_here})
    return led(other, table)


def some_map(chance, points, values):
    """A map of a set into itself: the set made of values over points."""
    many = made(points, values)
    tops = orbits(many, points)
    rows = []
    for value in tops:
        ends = [end for end in [chosen_points(chance, value, points, other) for other in chance.sample(tops, min(len(tops), 6))] if end is not None]
        rows.append(("row", value, chance.choice([*ends, value])))
    return made(points, rows)


def some_set_of_parts(chance, most_points, many, most=2):
    points = some_points(chance, chance.choice(range(most_points + 1)))
    return points, [some_part(chance, most) for _ in range(many)]


def only(value):
    """The set of this value alone."""
    return made(support(value), [value])


def some_web(chance):
    """A web as callers may pass it, small."""
    if chance.random() < 0.5:
        points, most = some_points(chance, chance.choice([0, 1])), 2
    else:
        points, most = some_points(chance, chance.choice([1, 2, 3])), 1
    parts = [some_part(chance, most) for _ in range(chance.choice([2, 3, 4]))]
    web = made(points, [("row", chance.choice(parts), chance.choice(parts)) for _ in range(chance.choice([1, 2, 3, 4]))])
    while len(web[2]) > 40 or len(orbits(pairs(places(web), places(web)), web[1])) > 600:
        web = made(points, web[2][:2])
    return web


def some_values(chance, web, many):
    """Values with at most two points beside the web's, mostly places."""
    held = values_on([part for row in web[2] for part in row[1:]], further(web[1], 2))
    held = [value for value in held if is_in(value, places(web))] or ["a"]
    return [chance.choice([chance.choice(held), chance.choice(held), some_part(chance, 2)]) for _ in range(many)]

"""Points that are enough to pick a second for each first of a set of rows of two; and what is picked."""

from gapwise.bars import bars, fitting, intervals
from gapwise.codes import filled, passage
from gapwise.errors import NotEnough
from gapwise.families import keyed, opened, refined_count
from gapwise.further import Spots
from gapwise.lettering import first_of_slices
from gapwise.making import is_in, made, orbits
from gapwise.mixing import MOST, check_many
from gapwise.papers import is_value
from gapwise.placing import led
from gapwise.points import code_of, is_number, merged_points
from gapwise.products import firsts
from gapwise.reading import are_points
from gapwise.values import support


def enough(R, points):
    """None if the points are enough, else the first value that stands for an orbit of firsts that lacks some."""
    together = merged_points(R[1], points)
    way, table, known, slices = passage(R[1], together), {}, {}, []
    spots, beside = Spots(R), {}
    for x in orbits(firsts(R), R[1]):
        key, skeleton = keyed(x, R[1])
        table[key] = skeleton
        # Many firsts have the same codes and the same needs.
        needs = sorted([sorted(spot.needs.items()) for spot in spots.of(x)])
        group = (key[1], tuple([tuple(need) for need in needs]))
        if group not in known:
            if key[1] not in beside:
                beside[key[1]] = [(finer, free_points(key[1], finer, way)) for finer in way.finer(key[1])]
            known[group] = [finer for finer, free in beside[key[1]] if lacks(free, needs)]
        if known[group]:
            slices.append((key, known[group]))
    return first_of_slices(together, table, slices)


def lacks(free, needs):
    """Whether none of the needs is met by so many free points in the intervals."""
    for need in needs:
        if all([free[place] >= many for place, many in need]):
            return False
    return True


def free_points(codes, finer, way):
    """For each gap and interval how many of the more points lie there, beside a value with these codes."""
    counts = {}
    for gap in range(len(way.lows)):
        marks = [way.lows[gap], *[finer[at] for at in range(len(codes)) if codes[at] == 2 * gap], way.highs[gap]]
        for interval in range(len(marks) - 1):
            # The points have odd codes; this many lie strictly between two marks.
            counts[(gap, interval)] = marks[interval + 1] // 2 - (marks[interval] + 1) // 2
    return counts


def plenty(R):
    """For each gap how many points are enough, if any are."""
    most = [0] * (len(R[1]) + 1)
    own = [0] * (len(R[1]) + 1)
    spots = Spots(R)
    for text in spots.groups:
        for spot in spots.groups[text]:
            counts = [0] * len(most)
            for gap, interval in spot.needs:
                counts[gap] += spot.needs[(gap, interval)]
            most = [max(one, other) for one, other in zip(most, counts)]
            own = [max(one, many - 1) for one, many in zip(own, intervals(R[1], spot.row[1]))]
    return tuple([(j + 1) * (n - 1) + 1 + j if n else 0 for n, j in zip(most, own)])


def pick(R):
    """Points that are enough, or a bar."""
    found = bars(R)
    return found[0] if found else ("points", filled(R[1], plenty(R)))


def judge_pick(R, value):
    """What is wrong with any value as a paper, None if nothing is."""
    if is_points_paper(value):
        lacking = enough(R, value[1])
        return None if lacking is None else ("lacks", lacking)
    if not is_bar_paper(value, len(R[1]) + 1):
        return ("form",)
    _, x, choice = value
    if not is_in(x, firsts(R)):
        return ("first",)
    parts = intervals(R[1], x)
    for gap in range(len(parts)):
        if not 0 <= choice[gap] < parts[gap]:
            return ("choice", gap)
    second = fitting(R, x, choice)
    return None if second is None else ("fits", second)


def is_points_paper(value):
    return isinstance(value, tuple) and len(value) == 2 and value[0] == "points" and are_points(value[1])


def is_bar_paper(value, gaps):
    """Whether any value is a tuple of "bar", a value and a tuple of so many integers."""
    if not isinstance(value, tuple) or len(value) != 3 or value[0] != "bar" or not isinstance(value[2], tuple):
        return False
    return len(value[2]) == gaps and all([is_number(number) for number in value[2]]) and is_value(value[1])


def picked(R, points):
    """A map in which each first of the set stands first in one of its rows, over its points and further ones."""
    together = merged_points(R[1], points)
    check_many(refined_count(opened(firsts(R)), together), MOST)
    lacking = enough(R, points)
    if lacking is not None:
        raise NotEnough(lacking)
    return picked_map(R, together)


def picked_map(R, together):
    """What picked tells, however many orbits it has; together has the set's points and enough further ones."""
    spots = Spots(R)
    return made(together, [picked_row(spots, x, together) for x in orbits(firsts(R), together)])


def picked_row(spots, x, together):
    """A row of x and a second for it all of whose points are among those of x and together."""
    held = merged_points(spots.points, support(x))
    free = {}
    for point in together:
        code = code_of(held, point)
        if code % 2 == 0:
            free.setdefault(code, []).append(point)
    for spot in spots.of(x):
        row = spot.row_at(x, spots.points)
        table = way_to_free(support(row), held, free)
        if table is not None:
            return ("row", x, led(row[2], table))
    raise NotEnough(x)


def way_to_free(points, held, free):
    """The table that leads points to free ones in the same gaps of held, None if there are too few; held ones stay."""
    table, taken = {}, {}
    for point in points:
        code = code_of(held, point)
        if code % 2 == 1:
            table[point] = point
        else:
            at = taken.get(code, 0)
            if at == len(free.get(code, [])):
                return None
            table[point] = free[code][at]
            taken[code] = at + 1
    return table

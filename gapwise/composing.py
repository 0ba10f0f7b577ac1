"""Pairs put together by what stands between them."""

from gapwise.mixing import MOST, check_many, laid_together, ranked
from gapwise.relating import Ties
from gapwise.values import value_text


def composed(first, second, points):
    """The table, over points, of all pairs of x and z with (x, y) in the first set and (y, z) in the second one.

    Points are those of both sets. For each orbit of y over them x and z are told by their codes over points and those
    of y, put together; between these the points of x and of z lie in all ways.
    """
    lefts = by_part(Ties(first, points), 1)
    rights = by_part(Ties(second, points), 0)
    found, known, texts = {}, {}, {}
    for key in lefts:
        if key not in rights:
            continue
        down = codes_below(key[1], len(points))
        for x in lefts[key]:
            for z in rights[key]:
                if (x[1], z[1]) not in known:
                    known[(x[1], z[1])] = laid_together(x[1], z[1])
                for codes, ones, others in known[(x[1], z[1])]:
                    row_key = (x[0], z[0], ones, others)
                    if row_key not in texts:
                        row = ("row", ranked(lefts[key][x], ones), ranked(rights[key][z], others))
                        texts[row_key] = (value_text(row), row)
                    text, row = texts[row_key]
                    found[(text, tuple([down[code] for code in codes]))] = row
                check_many(len(found), MOST)
    return found


def by_part(ties, at):
    """For the key of each part number at of the ties: what stands beside it.

    That is a dict to the skeletons of the other parts from their texts and their codes over points and those of the
    part number at.
    """
    found = {}
    for key, first, second in ties.orbits:
        halves = ties.halves[key[0]]
        middle, other = halves[at], halves[1 - at]
        beside = found.setdefault(second if at else first, {})
        beside[(other.text, codes_beside(key[1], other.ranks, middle.ranks))] = other.skeleton
    return found


def codes_beside(codes, ranks, middle):
    """The codes of a row's points of these ranks over points and those of the middle's ranks, put together.

    The row's own codes are over points alone.
    """
    free = [rank for rank in middle if codes[rank] % 2 == 0]
    found = []
    for rank in ranks:
        below = codes[rank] // 2 + len([one for one in free if one < rank])
        is_one = codes[rank] % 2 == 1 or rank in free
        found.append(2 * below + 1 if is_one else 2 * below)
    return tuple(found)


def codes_below(middle, many):
    """A list that leads codes over so many points and those with the codes middle to codes over the points alone."""
    down = []
    for gap in range(many + 1):
        for _ in range(middle.count(2 * gap)):
            down.extend([2 * gap, 2 * gap])
        down.append(2 * gap)
        if gap < many:
            down.append(2 * gap + 1)
    return down

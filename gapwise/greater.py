"""Which sets can be led to others, or into others, one to one: by their sizes."""

from math import comb

from gapwise.algebra import joined_points
from gapwise.codes import filled
from gapwise.errors import BadSize
from gapwise.families import opened, refined_count
from gapwise.making import made, orbits
from gapwise.mixing import MOST, check_many
from gapwise.placing import shape
from gapwise.points import merged_points
from gapwise.sizes import size_of

LETTERS = "abcdefghijklmnopqrstuvwxyz"


def as_great(one, other):
    """Rows that lead one to other one to one, or a sample on which their counts are unlike."""
    points = joined_points(one, other)
    more = size_of(one, points) - size_of(other, points)
    if not more.terms:
        check_many(refined_count(opened(one), points), MOST)
        rows, _ = matched(one, other, points)
        return ("same", made(points, rows))
    # With fewer points than any shape has, and with just a least shape's, no other term tells anything.
    _, least = min([(sum(counts), counts) for counts, _ in more.terms])
    return ("sample", merged_points(points, filled(points, least)))


def matched(one, other, points):
    """Rows of a value of one's orbits over points and of one of other's, each once, with the same points in the gaps.

    It returns their list, and the shape for which other has no orbit left, None if it has enough.
    """
    free = {}
    for value in orbits(other, points):
        free.setdefault(shape(value, points), []).append(value)
    rows = []
    for value in orbits(one, points):
        counts = shape(value, points)
        if not free.get(counts):
            return rows, counts
        rows.append(("row", value, free[counts].pop()))
    return rows, None


def into_map(one, other, points):
    """Rows that lead one into other by points, or a shape that too many of one's orbits have."""
    together = merged_points(joined_points(one, other), points)
    check_many(refined_count(opened(one), together), MOST)
    rows, lacking = matched(one, other, together)
    return ("map", made(together, rows)) if lacking is None else ("more", lacking)


def into(one, other):
    """The least number of new points in each gap by which one goes into other, or a shape that keeps it from it."""
    points = joined_points(one, other)
    more = size_of(other, points) - size_of(one, points)
    lacking = [counts for counts, number in more.greatest() if number < 0]
    if lacking:
        return ("never", lacking[0])
    low, high = 0, 1
    while not has_enough(more, high):
        low, high = high, 2 * high
    # It is not enough with fewer than low, and it is with high.
    while low < high:
        middle = (low + high) // 2
        if has_enough(more, middle):
            high = middle
        else:
            low = middle + 1
    return ("into", low)


def has_enough(size, many):
    """Whether a size has no number below 0 with so many new points in each gap."""
    known = {counts: number for counts, number in size.terms}
    for gap in range(size.gaps):
        grown = {}
        for counts in known:
            for left in range(counts[gap] + 1):
                # The gap's other points are new ones. Where those lie that are left makes no difference.
                finer = (*counts[:gap], left, *counts[gap + 1:])
                grown[finer] = grown.get(finer, 0) + known[counts] * comb(many, counts[gap] - left)
        known = grown
    return all([known[counts] >= 0 for counts in known])


def order(one, other):
    """Whether one set without points is greater than another one: 1, 0 or -1."""
    terms = (size_of(one, ()) - size_of(other, ())).terms
    if not terms:
        return 0
    return 1 if terms[-1][1] > 0 else -1


def standard(points, size):
    """The set of rows of a word and ascending points that has this size over points."""
    total = 0
    for counts, number in size.terms:
        if number < 0 or sum(counts) > 3:
            raise BadSize()
        total += number
    check_many(total, MOST)
    rows = []
    for counts, number in size.terms:
        for _ in range(number):
            rows.append(("row", word_of(len(rows)), *filled(points, counts)))
    return made(points, rows)


def word_of(number):
    """The number written with 26 letters as figures."""
    word = LETTERS[number % 26]
    while number >= 26:
        number = number // 26
        word = LETTERS[number % 26] + word
    return word

"""Members of sets on samples: finitely many points, the set's own among them."""

from itertools import combinations
from math import comb

from gapwise.codes import gap_counts
from gapwise.errors import BadSample
from gapwise.families import opened
from gapwise.mixing import MOST, check_many
from gapwise.placing import led
from gapwise.points import code_of
from gapwise.reading import are_points
from gapwise.values import value_text


def members_on(many, sample):
    """The list of the set's members whose support lies in the sample, ascending by their texts."""
    check_many(count(many, sample), MOST)
    return all_on(many, sample)


def count(many, sample):
    """How many members of the set have their support in the sample."""
    check_sample(many, sample)
    pools = gap_pools(many[1], sample)
    known = opened(many).codes()
    return sum([known[codes] * ways_on(codes, pools) for codes in known])


def check_sample(many, sample):
    """Raises BadSample if any value is no sample of the set."""
    if not are_points(sample):
        raise BadSample()
    for point in many[1]:
        if point not in sample:
            raise BadSample()


def gap_pools(points, sample):
    """For each gap of points the list of the sample's points in it, ascending."""
    pools = [[] for _ in range(len(points) + 1)]
    for point in sample:
        code = code_of(points, point)
        if code % 2 == 0:
            pools[code // 2].append(point)
    return pools


def ways_on(codes, pools):
    """How many values with one skeleton and these codes have their points in the pools."""
    counts = gap_counts(codes, len(pools) - 1)
    total = 1
    for gap in range(len(pools)):
        total = total * comb(len(pools[gap]), counts[gap])
    return total


def all_on(many, sample):
    """The list of all members on the sample, however many, ascending by their texts."""
    pools = gap_pools(many[1], sample)
    table, ways, pairs = opened(many).table(), {}, []
    for key in table:
        codes = key[1]
        if codes not in ways:
            ways[codes] = places_on(codes, many[1], pools)
        for places in ways[codes]:
            value = led(table[key], {(at, 1): places[at] for at in range(len(places))})
            pairs.append((value_text(value), value))
    return [value for _, value in sorted(pairs, key=lambda pair: pair[0])]


def places_on(codes, points, pools):
    """All rows of places that have these codes over points, those in the gaps taken from the pools."""
    rows, at = [()], 0
    while at < len(codes):
        place = codes[at] // 2
        if codes[at] % 2:
            parts = [(points[place],)]
            at += 1
        else:
            many = codes.count(codes[at])
            parts = choices(pools[place], many)
            at += many
        rows = [row + part for row in rows for part in parts]
    return rows


def choices(pool, many):
    """All ascending tuples of so many points of an ascending list."""
    return list(combinations(pool, many))

"""Codes: how the points of a value lie among an ascending tuple of points.

Code 2 * k stands for gap k of the points, code 2 * k + 1 for their point number k. The codes of an ascending tuple
of points ascend; an even one may stand several times. Two values are alike over the points just if they are alike
over no points at all and the codes of their supports are the same.
"""

from gapwise.points import code_of, spread


def codes_of(places, points):
    """The codes of ascending places over points."""
    if not points:
        return (0,) * len(places)
    return tuple([code_of(points, place) for place in places])


def places_of(codes, points):
    """The places of the codes: points themselves, and spread places in the gaps."""
    places = []
    at = 0
    while at < len(codes):
        code = codes[at]
        if code % 2:
            places.append(points[code // 2])
            at += 1
        else:
            many = codes.count(code)
            places.extend(spread(points, code // 2, many))
            at += many
    return places


def filled(points, counts):
    """The tuple of spread places with so many of them in each gap of points."""
    codes = [2 * gap for gap in range(len(counts)) for _ in range(counts[gap])]
    return tuple(places_of(tuple(codes), points))


def gap_counts(codes, many):
    """How many of the codes lie in each gap of so many points."""
    counts = [0] * (many + 1)
    for code in codes:
        if code % 2 == 0:
            counts[code // 2] += 1
    return tuple(counts)


def crossings(one, other):
    """In how many ways so many ones and so many others lie in a gap, ascending, where two of them may be one."""
    row = [1] * (other + 1)
    for _ in range(one):
        grown = [1]
        for at in range(other):
            grown.append(grown[at] + row[at] + row[at + 1])
        row = grown
    return row[other]


def fillings(low, high, many):
    """All rows of so many ascending codes from low to high in which no odd one stands twice."""
    rows = [()]
    for _ in range(many):
        rows = [(*row, code) for row in rows for code in range(next_code(row, low), high + 1)]
    return rows


def next_code(row, low):
    """The least code that may follow a row of codes."""
    if not row:
        return low
    return row[-1] + row[-1] % 2


class Passage:
    """Leads codes over old points to codes over new ones.

    spots are the codes of the old points over the new ones, top is the code of the last new gap.
    """

    def __init__(self, spots, top):
        self.spots = spots
        self.lows = [0, *[spot + spot % 2 for spot in spots]]
        self.highs = [*[spot - spot % 2 for spot in spots], top]
        self.known = {}
        self.counts = {}

    def coarse(self, codes):
        """The only codes there are if all new points are old ones."""
        return tuple([self.spots[code // 2] if code % 2 else self.lows[code // 2] for code in codes])

    def ways(self, codes):
        """How many rows of codes finer returns."""
        if codes not in self.counts:
            total = 1
            for gap in sorted({code // 2 for code in codes if code % 2 == 0}):
                total = total * crossings(codes.count(2 * gap), (self.highs[gap] - self.lows[gap]) // 2)
            self.counts[codes] = total
        return self.counts[codes]

    def finer(self, codes):
        """The list of all codes over the new points that points of these codes over the old ones can have."""
        if codes not in self.known:
            self.known[codes] = self.worked_out(codes)
        return self.known[codes]

    def worked_out(self, codes):
        rows = [()]
        at = 0
        while at < len(codes):
            place = codes[at] // 2
            if codes[at] % 2:
                parts = [(self.spots[place],)]
                at += 1
            else:
                many = codes.count(codes[at])
                parts = fillings(self.lows[place], self.highs[place], many)
                at += many
            rows = [row + part for row in rows for part in parts]
        return rows


def passage(olds, news):
    """The passage from codes over old points to codes over new ones."""
    return Passage(codes_of(olds, news), 2 * len(news))

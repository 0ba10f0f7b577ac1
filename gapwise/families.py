"""Families: sets of whole orbits over points, told by skeletons and codes.

A value's SKELETON is the value placed over no points, so its support is 0, 1, .. . An orbit over points is told by
the text of the skeleton that its members share, and by the codes of their supports: this pair is its key. All
reckoning with sets goes by keys; values are built of them only where they are asked for.
"""

from gapwise.codes import codes_of, passage, places_of
from gapwise.placing import led, placed
from gapwise.values import support, value_text

# As many questions for members, and no more, are answered for each told member without a table.
FEW = 16


class Family:
    """A set of values that is made of orbits over points.

    Its table leads from the keys of the orbits to their skeletons. Table and value are each worked out when they are
    asked for first; one of them is there from the beginning. A value is asked only of a family in its least form.
    """

    def __init__(self, points, table, many=None):
        self.points = points
        self._table = table
        self._many = many
        self._written = None
        self._codes = None
        self._asked = 0
        self._texts = None

    def table(self):
        if self._table is None:
            self._table = table_of(self.points, self._many[2])
        return self._table

    def plain(self):
        """The set as a value."""
        if self._many is None:
            self._many = ("set", self.points, tuple(ordered(self.points, self._table)))
        return self._many

    def written(self):
        if self._written is None:
            self._written = value_text(self.plain())
        return self._written

    def told(self):
        """How many orbits it has over its points."""
        return len(self._many[2]) if self._table is None else len(self._table)

    def example(self):
        """Any member."""
        if self._many is not None:
            return self._many[2][0]
        key = next(iter(self._table), None)
        return built(self._table[key], key[1], self.points)

    def codes(self):
        """How many of its orbits have which codes."""
        if self._codes is None:
            self._codes = {}
            if self._table is None:
                for codes, _ in spots(self._many[2], self.points):
                    self._codes[codes] = self._codes.get(codes, 0) + 1
            else:
                for _, codes in self._table:
                    self._codes[codes] = self._codes.get(codes, 0) + 1
        return self._codes

    def may_have(self, text):
        """Whether there may be orbits whose skeleton has this text; without a table it is not looked up."""
        if self._table is None:
            return True
        if self._texts is None:
            self._texts = {text: True for text, _ in self._table}
        return text in self._texts

    def asks_few(self):
        """Whether so little has been asked for that a table would not pay."""
        if self._table is not None:
            return False
        self._asked += 1
        return self._asked * FEW <= len(self._many[2])

    def has(self, value):
        """Whether a value is a member."""
        if self.asks_few():
            return placed(value, self.points) in self._many[2]
        key, _ = keyed(value, self.points)
        return key in self.table()

    def has_key(self, key, skeleton):
        """Whether the orbit with this key and skeleton is there."""
        if self.asks_few():
            return built(skeleton, key[1], self.points) in self._many[2]
        return key in self.table()


def opened(many):
    """The family of a set."""
    return Family(many[1], None, many)


def keyed(value, points):
    """The key of the value's orbit over points, and its skeleton."""
    skeleton = placed(value, ())
    return (value_text(skeleton), codes_of(support(value), points)), skeleton


def table_of(points, values):
    """The table of all values that are alike over points to one of values."""
    table = {}
    ways = spots(values, points)
    for at in range(len(values)):
        codes, way = ways[at]
        skeleton = values[at] if way is None else led(values[at], way)
        table[(value_text(skeleton), codes)] = skeleton
    return table


def spots(values, points):
    """For each value its codes over points, and the table that leads its points to its skeleton's, None if there."""
    known, found = {}, []
    for value in values:
        # Often many values have the same support.
        held = support(value)
        if held not in known:
            ranks = tuple([(at, 1) for at in range(len(held))])
            known[held] = (codes_of(held, points), None if ranks == held else dict(zip(held, ranks)))
        found.append(known[held])
    return found


def put_value(table, value, points):
    """Puts the value's orbit over points into a table."""
    key, skeleton = keyed(value, points)
    table[key] = skeleton


def way_out(codes, points):
    """The table that leads the points of a skeleton to places with these codes over points, None if they are there."""
    places = places_of(codes, points)
    ranks = [(at, 1) for at in range(len(places))]
    return None if places == ranks else dict(zip(ranks, places))


def built(skeleton, codes, points):
    """The value with this skeleton and these codes, placed over points."""
    way = way_out(codes, points)
    return skeleton if way is None else led(skeleton, way)


def ordered_keys(points, table):
    """The triples of a value's text, the value and its key, for each orbit of the table, in the order of the texts."""
    triples, ways = [], {}
    for key in table:
        # Often many keys have the same codes.
        codes = key[1]
        if codes not in ways:
            ways[codes] = way_out(codes, points)
        way = ways[codes]
        if way is None:
            triples.append((key[0], table[key], key))
        else:
            value = led(table[key], way)
            triples.append((value_text(value), value, key))
    return sorted(triples, key=lambda triple: triple[0])


def ordered(points, table):
    """The values that stand for the orbits of the table, in the order of their texts."""
    return [value for _, value, _ in ordered_keys(points, table)]


def refined(family, points):
    """The family's table over points among which its own points are."""
    if family.points == points:
        return family.table()
    way = passage(family.points, points)
    table = family.table()
    return {(key[0], codes): table[key] for key in table for codes in way.finer(key[1])}


def refined_count(family, points):
    """How many orbits the family has over points."""
    if family.points == points:
        return family.told()
    way = passage(family.points, points)
    counts = family.codes()
    return sum([way.ways(codes) * counts[codes] for codes in counts])


def least(points, table):
    """The family of a table over points, told over the points that can't be left out."""
    idle = idle_points(points, table) if points else []
    if not any(idle):
        return Family(points, table)
    kept = tuple([points[at] for at in range(len(points)) if not idle[at]])
    way = passage(points, kept)
    return Family(kept, {(key[0], way.coarse(key[1])): table[key] for key in table})


def idle_points(points, table):
    """For each point whether it can be left out: all keys that one gap would make of its place are there."""
    groups = [{} for _ in points]
    known = {}
    for text, codes in table:
        if codes not in known:
            known[codes] = [(at, without(codes, at)) for at in touched(codes, len(points))]
        for at, wide in known[codes]:
            group = (text, wide)
            groups[at][group] = groups[at].get(group, 0) + 1
    return [is_full(groups[at], at) for at in range(len(points))]


def touched(codes, many):
    """The numbers of those of so many points that are among the codes, or beside one in a gap."""
    found = {}
    for code in codes:
        if code < 2 * many:
            found[code // 2] = True
        if code % 2 == 0 and code > 0:
            found[code // 2 - 1] = True
    return list(found)


def without(codes, at):
    """The codes with the point number at and the gaps beside it made one gap, called by the lower one's code."""
    return tuple([2 * at if 2 * at <= code <= 2 * at + 2 else code for code in codes])


def splits(codes, at):
    """All codes of which without makes these."""
    start = codes.index(2 * at) if 2 * at in codes else 0
    many = codes.count(2 * at)
    head, tail = codes[:start], codes[start + many:]
    found = []
    for below in range(many + 1):
        found.append((*head, *[2 * at] * below, *[2 * at + 2] * (many - below), *tail))
    for below in range(many):
        found.append((*head, *[2 * at] * below, 2 * at + 1, *[2 * at + 2] * (many - below - 1), *tail))
    return found


def is_full(counts, at):
    """Whether each group has all the keys that the point number at can part it into."""
    return all([counts[group] == 2 * group[1].count(2 * at) + 1 for group in counts])

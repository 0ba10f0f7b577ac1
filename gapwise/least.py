"""The least machine that takes the same words."""

from gapwise.charts import Chart, Spread, machine_points, places_at
from gapwise.codes import codes_of
from gapwise.errors import PartedBy
from gapwise.families import Family, least, opened
from gapwise.making import made
from gapwise.mixing import MOST, check_many, laid_together, paired_count
from gapwise.pairing import Joint, Pairing
from gapwise.placing import replaced
from gapwise.points import merged_points
from gapwise.relating import Inside
from gapwise.values import support
from gapwise.words import Ends, parting_word


class Classes:
    """For the reached places of a machine the sets of the reached places that are one with them.

    points are those of all parts of the machine. sets has for the key of each reached place the set in which the value
    stands that stands for the orbit.
    """

    def __init__(self, machine):
        self.points = machine_points(machine)
        self.chart = Chart(machine, self.points)
        self.orbit_keys = list(Spread(self.chart, machine[2]).lasts)
        family = Family(self.points, {key: self.chart.skeletons[key[0]] for key in self.orbit_keys})
        check_many(paired_count(family, family), MOST)
        pairing = Pairing(self.chart, self.chart, machine[0])
        tables = {key: {} for key in self.orbit_keys}
        for pair in equal_pairs(pairing, self.orbit_keys, Ends(pairing, machine, machine)):
            lay = pairing.lay(pair[2])
            near = (pair[1], codes_of(lay.other, lay.near_one))
            tables[(pair[0], lay.one_codes)][near] = self.chart.skeletons[pair[1]]
        self.sets = {key: least(self.around(key), tables[key]).plain() for key in self.orbit_keys}
        self.known = {}

    def around(self, key):
        """The points and those of the value that stands for an orbit of places, put together."""
        return merged_points(self.points, places_at(key[1], self.points))

    def of(self, place):
        """The set in which a reached place stands."""
        if place not in self.known:
            key = self.chart.key(place)
            news = merged_points(self.points, support(place))
            self.known[place] = replaced(self.sets[key], self.around(key), news)
        return self.known[place]

    def set_of(self, keys):
        """The set of the sets in which the places of these orbits stand."""
        return made(self.points, [self.sets[key] for key in keys])


def equal_pairs(pairing, keys, ends):
    """The list of the pairs of places of a machine, of these orbits, that are one."""
    pairs = [(one[0], other[0], (codes, ones, others)) for one in keys for other in keys
             for codes, ones, others in laid_together(one[1], other[1])]
    ahead = {}
    for pair in pairs:
        for _, behind, _ in pairing.ways_on(pair):
            ahead.setdefault(behind, []).append(pair)
    parted = {pair: True for pair in pairs if ends.many_of(pair) == 1}
    waiting = list(parted)
    while waiting:
        last = waiting.pop()
        for pair in ahead.get(last, []):
            if pair not in parted:
                parted[pair] = True
                waiting.append(pair)
    return [pair for pair in pairs if pair not in parted]


def least_machine(machine):
    """The machine of the sets of reached places that are one."""
    classes = Classes(machine)
    letters, _, start, _, ends = machine
    rows = [row for row in classes.chart.rows if classes.chart.key(row[1]) in classes.sets]
    moves = [("row", classes.of(p), a, classes.of(q)) for _, p, a, q in rows]
    held = Inside(opened(ends), classes.points)
    last = [key for key in classes.orbit_keys if held.has(key, classes.chart.skeletons[key[0]])]
    places = classes.set_of(classes.orbit_keys)
    return (letters, places, classes.of(start), made(classes.points, moves), classes.set_of(last))


def lead(machine):
    """The map from the reached places to the sets in which they stand."""
    classes = Classes(machine)
    rows = [("row", classes.chart.value_of(key), classes.sets[key]) for key in classes.orbit_keys]
    return made(classes.points, rows)


def matched(one, other):
    """The map between the places of the least machines of two that takes each to the one with the same words."""
    joint = Joint(one, other)
    firsts, seconds = Classes(one), Classes(other)
    word = parting_word(joint, one, other)
    if word is not None:
        raise PartedBy(word)
    rows = []
    for pair in joint.lasts:
        p, q = joint.pairing.places(pair)
        rows.append(("row", firsts.of(p), seconds.of(q)))
    return made(joint.pairing.points, rows)

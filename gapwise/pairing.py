"""Pairs of places of two machines over points, letter by letter.

A pair is told by the texts of its two places and by its LAY: the codes of their points over the points, put together,
and the ranks among these that the one's and the other's points have.
"""

from gapwise.charts import Chart, Letters, led_to, machine_points, places_at
from gapwise.codes import codes_of, passage
from gapwise.mixing import MOST, check_many
from gapwise.points import merged_points
from gapwise.values import support


def ranks_in(held, points):
    """The ranks that some of an ascending tuple of points have in it."""
    return tuple([points.index(point) for point in held])


def lay_of(one, other, points):
    """The lay of two places with these supports."""
    held = merged_points(one, other)
    return (codes_of(held, points), ranks_in(one, held), ranks_in(other, held))


class Lay:
    """How the points of two places lie, with all that is told of it alone; both has all of them, placed over points."""

    def __init__(self, key, points):
        codes, ones, others = key
        self.points = points
        self.both = places_at(codes, points)
        self.one = tuple([self.both[rank] for rank in ones])
        self.other = tuple([self.both[rank] for rank in others])
        self.one_codes = tuple([codes[rank] for rank in ones])
        self.other_codes = tuple([codes[rank] for rank in others])
        self.near_both = merged_points(points, self.both)
        self.near_one = merged_points(points, self.one)
        self.near_other = merged_points(points, self.other)
        self.way = passage(points, self.near_both)
        self.letters = {}
        self.ahead = {}

    def letters_at(self, codes):
        """For letters with these codes over points all ways to lie here: their points, and three codes of these.

        The codes are over points and those of both places, of the one, and of the other.
        """
        if codes not in self.letters:
            found = []
            for finer in self.way.finer(codes):
                held = places_at(finer, self.near_both)
                found.append((held, finer, codes_of(held, self.near_one), codes_of(held, self.near_other)))
            self.letters[codes] = found
        return self.letters[codes]

    def step(self, held, one_end, other_end):
        """The Step by a letter with these points; the ends have the codes of the places behind, each near its own."""
        key = (held, one_end, other_end)
        if key not in self.ahead:
            left, right = merged_points(self.near_one, held), merged_points(self.near_other, held)
            one = tuple([left[code // 2] for code in one_end])
            other = tuple([right[code // 2] for code in other_end])
            self.ahead[key] = Step(self, held, one, other)
        return self.ahead[key]


class Step:
    """The way from a lay to the next one by a letter: its key, and the numbers kept of its points among all there are.

    whole and ranks tell how the points of the two places, of the letter and of the two places behind lie together.
    """

    def __init__(self, lay, letter, one, other):
        around = merged_points(lay.near_both, letter)
        whole = merged_points(lay.both, letter)
        whole = merged_points(whole, merged_points(one, other))
        self.next_lay = lay_of(one, other, lay.points)
        self.kept = [around.index(point) for point in merged_points(one, other)]
        self.whole = codes_of(whole, lay.points)
        self.ranks = [ranks_in(held, whole) for held in (lay.one, lay.other, letter, one, other)]


class Pairing:
    """Pairs of places of two machines, or of one, over points among which those of all their parts are."""

    def __init__(self, one, other, letters):
        self.one = one
        self.other = other
        self.points = one.points
        self.letters = Letters(letters, self.points)
        self.lays = {}

    def pair_of(self, p, q):
        """The pair, as it is told, of two places."""
        p_key, p_held = self.one.told(p)
        q_key, q_held = self.other.told(q)
        return (p_key[0], q_key[0], lay_of(p_held, q_held, self.points))

    def lay(self, key):
        if key not in self.lays:
            self.lays[key] = Lay(key, self.points)
        return self.lays[key]

    def two_keys(self, pair):
        """The keys of the two places."""
        lay = self.lay(pair[2])
        return (pair[0], lay.one_codes), (pair[1], lay.other_codes)

    def places(self, pair):
        """The two places of the pair that stands for all that are alike to it."""
        lay = self.lay(pair[2])
        return led_to(self.one.skeletons[pair[0]], lay.one), led_to(self.other.skeletons[pair[1]], lay.other)

    def ways_on(self, pair):
        """The list of the letters beside a pair, told by their texts and codes, the pairs behind, and the Steps."""
        lay = self.lay(pair[2])
        p_key, q_key = self.two_keys(pair)
        p_moves, q_moves = self.one.moves_from(p_key), self.other.moves_from(q_key)
        found = []
        for codes in self.letters.groups:
            for held, finer, left, right in lay.letters_at(codes):
                for text in self.letters.groups[codes]:
                    p_text, p_end = p_moves[(text, left)].end
                    q_text, q_end = q_moves[(text, right)].end
                    step = lay.step(held, p_end, q_end)
                    found.append(((text, finer), (p_text, q_text, step.next_lay), step))
        return found


class Joint:
    """All pairs of places of two machines to which one word leads from their starts, the nearest ones first.

    lasts has for each of them the pair ahead of it, the letter beside that one and the Step, None for the starts.
    """

    def __init__(self, one, other):
        points = merged_points(machine_points(one), machine_points(other))
        self.pairing = Pairing(Chart(one, points), Chart(other, points), one[0])
        first = self.pairing.pair_of(one[2], other[2])
        self.lasts = {first: None}
        self.onward = {}
        level = [first]
        while level:
            further = []
            for pair in level:
                self.onward[pair] = self.pairing.ways_on(pair)
                for near, behind, step in self.onward[pair]:
                    if behind not in self.lasts:
                        self.lasts[behind] = (pair, near, step)
                        check_many(len(self.lasts), MOST)
                        further.append(behind)
            level = further

    def word_to(self, pair):
        """A shortest word that leads the starts to the two places of such a pair."""
        way = []
        while self.lasts[pair] is not None:
            way.append(self.lasts[pair])
            pair = self.lasts[pair][0]
        points, held, word = self.pairing.points, self.pairing.lay(pair[2]).both, []
        for _, near, step in way[::-1]:
            letter = self.pairing.letters.at(near, held)
            around = merged_points(merged_points(points, held), support(letter))
            held = tuple([around[at] for at in step.kept])
            word.append(letter)
        return tuple(word)

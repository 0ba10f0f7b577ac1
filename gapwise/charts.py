"""Charts: the moves of a machine between the orbits of its places over points, letter by letter."""

from gapwise.codes import codes_of, passage, places_of
from gapwise.families import built, keyed, opened, refined
from gapwise.making import orbits
from gapwise.placing import led
from gapwise.points import merged_points
from gapwise.relating import led_row
from gapwise.values import support


def machine_points(machine):
    """The points of all parts of a machine, put together."""
    points = ()
    for part in machine:
        points = merged_points(points, support(part))
    return points


def places_at(codes, points):
    """The ascending tuple of the places with these codes over points."""
    return tuple(places_of(codes, points))


def led_to(skeleton, held):
    """The value with this skeleton and this support."""
    return led(skeleton, {(at, 1): held[at] for at in range(len(held))})


def rows_over(many, points):
    """The values that stand for the orbits of a set over points, among which its own are, in some order."""
    return list(many[2]) if many[1] == points else orbits(many, points)


class Move:
    """A move: its row, and the keys of the places and the letter in it.

    end tells the place behind by its text and its codes over points, the place's and the letter's.
    """

    def __init__(self, row, keys, end):
        self.row = row
        self.start, self.letter, self.behind = keys
        self.end = end


class Chart:
    """The moves of a machine over points, among which those of all its parts are.

    onward has for the key of each place from which moves lead a dict to these. Their letters are told there by their
    texts and their codes over points and the place's. doubtful has the rows of two moves that lead from one place by
    one letter, or of one whose end is not told by the place, the letter and the points.
    """

    def __init__(self, machine, points):
        self.points = points
        self.onward = {}
        self.doubtful = []
        self.skeletons = {}
        self.known = {}
        self.lays = {}
        self.rows = rows_over(machine[3], points)
        for row in self.rows:
            self.put(row)

    def key(self, value):
        """The key of a place or a letter."""
        return self.told(value)[0]

    def told(self, value):
        """The key of a place or a letter, and its support."""
        if value not in self.known:
            key, skeleton = keyed(value, self.points)
            self.skeletons[key[0]] = skeleton
            self.known[value] = (key, support(value))
        return self.known[value]

    def value_of(self, key):
        """The place or letter that stands for an orbit."""
        return built(self.skeletons[key[0]], key[1], self.points)

    def moves_from(self, key):
        """The dict to the moves from a place, by their letters; in a machine without letters none lead on."""
        return self.onward.get(key, {})

    def put(self, row):
        start, p_held = self.told(row[1])
        letter, a_held = self.told(row[2])
        behind, q_held = self.told(row[3])
        helds = (p_held, a_held, q_held)
        if helds not in self.lays:
            around = merged_points(self.points, p_held)
            self.lays[helds] = (codes_of(a_held, around), codes_of(q_held, merged_points(around, a_held)))
        a_codes, q_codes = self.lays[helds]
        moves = self.onward.setdefault(start, {})
        near = (letter[0], a_codes)
        if near in moves:
            self.doubtful.extend([moves[near].row, row])
        elif any([code % 2 == 0 for code in q_codes]):
            self.doubtful.append(row)
        moves[near] = Move(row, (start, letter, behind), (behind[0], q_codes))


class Letters:
    """The letters of a machine over points, among which its own are, told by how they lie among further points.

    groups has for the codes of letters over points the list of their texts.
    """

    def __init__(self, letters, points):
        self.points = points
        self.groups = {}
        self.skeletons = {}
        table = refined(opened(letters), points)
        for text, codes in table:
            self.groups.setdefault(codes, []).append(text)
            self.skeletons[text] = table[(text, codes)]

    def beside(self, held):
        """The pairs of texts and codes over points and those held, put together, of all letters."""
        way = passage(self.points, merged_points(self.points, held))
        return [(text, finer) for codes in self.groups for finer in way.finer(codes) for text in self.groups[codes]]

    def at(self, near, held):
        """The letter with this text and these codes over points and those held."""
        text, codes = near
        return built(self.skeletons[text], codes, merged_points(self.points, held))


class Spread:
    """How words lead from the start of a machine to the orbits of its places over the chart's points.

    lasts has for each orbit that is reached, the nearest ones first, the last move of a shortest word there, None for
    the start's.
    """

    def __init__(self, chart, start):
        self.chart = chart
        key = chart.key(start)
        self.lasts = {key: None}
        level = [key]
        while level:
            further = []
            for one in level:
                moves = chart.moves_from(one)
                for near in moves:
                    move = moves[near]
                    if move.behind not in self.lasts:
                        self.lasts[move.behind] = move
                        further.append(move.behind)
            level = further

    def word_to(self, key, place):
        """A shortest word to a place that is reached: each move is led to end where the next one begins."""
        word = []
        while self.lasts[key] is not None:
            move = self.lasts[key]
            _, place, letter, _ = led_row(move.row, 3, place, self.chart.points)
            word.append(letter)
            key = move.start
        return tuple(word[::-1])

"""Words of machines, and machines compared and put together by their words."""

from gapwise.charts import Chart, Spread, machine_points, rows_over
from gapwise.families import keyed, least, opened
from gapwise.machines import takes
from gapwise.making import is_in
from gapwise.mixing import ranked
from gapwise.pairing import Joint, Pairing
from gapwise.points import merged_points
from gapwise.relating import Inside, is_pair
from gapwise.values import value_text


def spread_of(machine):
    """How words lead from the start to the orbits of places over the points of all parts."""
    return Spread(Chart(machine, machine_points(machine)), machine[2])


def reached(machine):
    """The set of all places to which some word leads."""
    spread = spread_of(machine)
    table = {key: spread.chart.skeletons[key[0]] for key in spread.lasts}
    return least(spread.chart.points, table).plain()


def word_to(machine, place):
    """A shortest word that leads from the start to a value, None if there is none."""
    spread = spread_of(machine)
    key, _ = keyed(place, spread.chart.points)
    return spread.word_to(key, place) if key in spread.lasts else None


def first_word(machine):
    """A shortest word that the machine takes, None if it takes none."""
    spread = spread_of(machine)
    ends = Inside(opened(machine[4]), spread.chart.points)
    for key in spread.lasts:
        if ends.has(key, spread.chart.skeletons[key[0]]):
            return spread.word_to(key, spread.chart.value_of(key))
    return None


class Ends:
    """Tells of pairs of places which of the two are ends of their machines."""

    def __init__(self, pairing, one, other):
        self.pairing = pairing
        self.one = Inside(opened(one[4]), pairing.points)
        self.other = Inside(opened(other[4]), pairing.points)

    def many_of(self, pair):
        """How many of the two are ends."""
        p_key, q_key = self.pairing.two_keys(pair)
        found = int(self.one.has(p_key, self.pairing.one.skeletons[p_key[0]]))
        return found + int(self.other.has(q_key, self.pairing.other.skeletons[q_key[0]]))


def parting_word(joint, one, other):
    """A shortest word that just one of two machines takes, None if there is none."""
    ends = Ends(joint.pairing, one, other)
    for pair in joint.lasts:
        if ends.many_of(pair) == 1:
            return joint.word_to(pair)
    return None


def alike_machines(one, other):
    """The pairs of places that show that two machines take the same words, or a shortest word that parts them."""
    joint = Joint(one, other)
    word = parting_word(joint, one, other)
    return ("alike", Rows(joint).places()) if word is None else ("word", word)


def judge_alike(one, other, value):
    """What keeps a paper about two machines from being right, None if nothing does."""
    if value[0] == "alike":
        return pairs_fault(one, other, value[1])
    word = value[1]
    for number in range(len(word)):
        if not is_in(word[number], one[0]):
            return ("letter", number)
    return ("taken",) if takes(one, word) == takes(other, word) else None


def pairs_fault(one, other, many):
    """What keeps a set from showing that two machines are alike, None if nothing does."""
    for row in many[2]:
        if not is_pair(row):
            return ("pairs", row)
    points = merged_points(many[1], merged_points(machine_points(one), machine_points(other)))
    pairing = Pairing(Chart(one, points), Chart(other, points), one[0])
    firsts, seconds = Inside(opened(one[1]), points), Inside(opened(other[1]), points)
    known = {}
    for row in rows_over(many, points):
        p_key, q_key = pairing.one.key(row[1]), pairing.other.key(row[2])
        if not (firsts.has(p_key, pairing.one.skeletons[p_key[0]])
                and seconds.has(q_key, pairing.other.skeletons[q_key[0]])):
            return ("pairs", row)
        known[pairing.pair_of(row[1], row[2])] = True
    if not is_in(("row", one[2], other[2]), many):
        return ("start",)
    return steps_fault(pairing, known, Ends(pairing, one, other))


def steps_fault(pairing, known, ends):
    """What keeps pairs of places from being closed, and ends from meeting ends alone; None if nothing does."""
    for pair in known:
        for near, behind, _ in pairing.ways_on(pair):
            if behind not in known:
                p, q = pairing.places(pair)
                return ("step", p, q, pairing.letters.at(near, pairing.lay(pair[2]).both))
    for pair in known:
        if ends.many_of(pair) == 1:
            return ("ends", *pairing.places(pair))
    return None


def both_machines(one, other):
    """The machine that takes the words that both take."""
    return joined_machine(one, other, 2)


def either_machine(one, other):
    """The machine that takes the words that at least one of two takes."""
    return joined_machine(one, other, 1)


def joined_machine(one, other, least_ends):
    """The machine of the pairs of places; its ends are those of which at least so many are ends."""
    joint = Joint(one, other)
    rows, ends = Rows(joint), Ends(joint.pairing, one, other)
    held = rows.places_of([pair for pair in joint.lasts if ends.many_of(pair) >= least_ends])
    return (one[0], rows.places(), ("row", one[2], other[2]), rows.moves(), held)


class Rows:
    """The places and moves of the machine of all pairs to which one word leads; it keeps the parts of their skeletons.

    The text of a row is put together from the texts of its parts.
    """

    def __init__(self, joint):
        self.joint = joint
        self.pairing = joint.pairing
        self.parts = {}

    def part(self, skeletons, text, ranks):
        """The value with this skeleton's text and points of these ranks, and its text."""
        key = (text, ranks)
        if key not in self.parts:
            value = ranked(skeletons[text], ranks)
            self.parts[key] = (value, value_text(value))
        return self.parts[key]

    def pair_part(self, p_text, ones, q_text, others):
        """The row of two places, by their texts and ranks, and its text."""
        p, p_told = self.part(self.pairing.one.skeletons, p_text, ones)
        q, q_told = self.part(self.pairing.other.skeletons, q_text, others)
        return ("row", p, q), "<" + p_told + " " + q_told + ">"

    def places_of(self, pairs):
        """The set of the rows of some pairs."""
        table = {}
        for p_text, q_text, (codes, ones, others) in pairs:
            row, text = self.pair_part(p_text, ones, q_text, others)
            table[(text, codes)] = row
        return least(self.pairing.points, table).plain()

    def places(self):
        return self.places_of(list(self.joint.lasts))

    def moves(self):
        """The set of the moves between the rows of the pairs."""
        table, letters = {}, self.pairing.letters.skeletons
        for pair in self.joint.onward:
            for (a_text, _), behind, step in self.joint.onward[pair]:
                ones, others, middle, next_ones, next_others = step.ranks
                start, start_text = self.pair_part(pair[0], ones, pair[1], others)
                letter, letter_text = self.part(letters, a_text, middle)
                end, end_text = self.pair_part(behind[0], next_ones, behind[1], next_others)
                text = "<" + start_text + " " + letter_text + " " + end_text + ">"
                table[(text, step.whole)] = ("row", start, letter, end)
        return least(self.pairing.points, table).plain()

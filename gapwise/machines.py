"""Machines: tuples of letters, places, a start, moves and ends, and the words that lead through them."""

from gapwise.algebra import outside
from gapwise.charts import Chart, Letters, led_to, machine_points, places_at, rows_over
from gapwise.codes import codes_of
from gapwise.errors import NoLetter
from gapwise.families import opened, refined
from gapwise.making import is_in, made
from gapwise.maps import two_seconds, value_at
from gapwise.mixing import rest
from gapwise.placing import led, moved
from gapwise.points import merged_points
from gapwise.products import seconds
from gapwise.relating import Inside
from gapwise.values import is_row, support


def judge_machine(machine):
    """What keeps a machine from being right, None if nothing does."""
    letters, places, start, moves, ends = machine
    if not is_in(start, places):
        return ("start",)
    strange = outside(ends, places)
    if strange is not None:
        return ("ends", strange)
    for row in moves[2]:
        if not is_row(row) or len(row) != 4:
            return ("moves", row)
    chart = Chart(machine, machine_points(machine))
    strange = strange_move(chart, opened(places), opened(letters))
    if strange is not None:
        return ("moves", strange)
    lacking = lacking_move(chart, places, letters)
    if lacking is not None:
        return ("lacks", *lacking)
    if chart.doubtful:
        # Their points are those of all parts, so they are told as they are placed.
        rows = [("row", ("row", p, a), q) for _, p, a, q in chart.doubtful]
        pair, q, r = two_seconds(("set", chart.points, rows))
        return ("twice", pair[1], pair[2], q, r)
    return None


def strange_move(chart, places, letters):
    """A move of a chart that leads from or to no member of places, or by none of letters; None if there is none."""
    known_places, known_letters = Inside(places, chart.points), Inside(letters, chart.points)
    for row in chart.rows:
        for at, known in ((1, known_places), (2, known_letters), (3, known_places)):
            key = chart.key(row[at])
            if not known.has(key, chart.skeletons[key[0]]):
                return row
    return None


def lacking_move(chart, places, letters):
    """A place and a letter from which no move of a chart leads, None if there are none."""
    points, known, near = chart.points, {}, Letters(letters, chart.points)
    table = refined(opened(places), points)
    for key in table:
        held = places_at(key[1], points)
        if held not in known:
            known[held] = near.beside(held)
        moves = chart.moves_from(key)
        for letter in known[held]:
            if letter not in moves:
                return led_to(table[key], held), near.at(letter, held)
    return None


def run_word(machine, word):
    """The tuple of the places that a word leads through."""
    letters, _, place, moves, _ = machine
    behind = {(row[1], row[2]): row[3] for row in moves[2]}
    walk = [place]
    for number in range(len(word)):
        if not is_in(word[number], letters):
            raise NoLetter(number)
        place = place_behind(behind, moves[1], place, word[number])
        walk.append(place)
    return tuple(walk)


def place_behind(behind, points, place, letter):
    """The place behind a place by a letter; behind tells it for those of the told moves over points."""
    held = merged_points(support(place), support(letter))
    told = places_at(codes_of(held, points), points)
    if told == held:
        return behind[(place, letter)]
    way, back = dict(zip(held, told)), {point: point for point in points}
    for old, new in zip(told, held):
        back[old] = new
    # All points of the place behind are those of the two, or of points.
    return led(behind[(led(place, way), led(letter, way))], back)


def takes(machine, word):
    """Whether the word leads from the start to an end."""
    return is_in(run_word(machine, word)[-1], machine[4])


def other_machine(machine):
    """The machine of which the ends are all places that were none."""
    letters, places, start, moves, ends = machine
    return (letters, places, start, moves, rest(opened(places), opened(ends), None).plain())


def turned_machine(machine, mapping):
    """The machine with the values of a map, one to one, in the places of its letters."""
    _, places, start, moves, ends = machine
    points = merged_points(moves[1], mapping[1])
    known, rows = {}, []
    for _, p, a, q in rows_over(moves, points):
        if a not in known:
            known[a] = value_at(mapping, a)
        rows.append(("row", p, known[a], q))
    return (seconds(mapping), places, start, made(points, rows), ends)


def moved_machine(machine, move):
    """The machine with all its parts led by the move."""
    return tuple([moved(part, move) for part in machine])

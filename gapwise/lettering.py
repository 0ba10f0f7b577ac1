"""Texts of the values of many orbits, told without building the values."""

from gapwise.codes import places_of
from gapwise.families import built
from gapwise.values import value_text


def text_pieces(value):
    """The text of the value, with its points between the strings, themselves, and whether this is all of it.

    With the points led elsewhere the strings stay; only a set's members would change their order, so if a set has
    points its text is told up to its members. Between two points there is always a string.
    """
    pieces = []
    run, is_whole = put_pieces(pieces, "", value)
    if run:
        pieces.append(run)
    return pieces, is_whole


def put_pieces(pieces, run, value):
    """Puts the pieces of the text behind others, which end with a string, the run.

    It returns the new run, and whether the text could be told to its end.
    """
    if isinstance(value, str):
        return run + value, True
    mark = "<"
    if value[0] == "set":
        if not value[1]:
            return run + value_text(value), True
        mark = "{"
        for point in value[1]:
            pieces.extend([run + mark, point])
            run, mark = "", " "
        return "|", False
    if value[0] != "row":
        if run:
            pieces.append(run)
        pieces.append(value)
        return "", True
    for part in value[1:]:
        run = run + mark
        if isinstance(part, str):
            run = run + part
        else:
            run, is_whole = put_pieces(pieces, run, part)
            if not is_whole:
                return run, False
        mark = " "
    return run + ">", True


class Namer:
    """Tells texts of values with codes over points; it keeps what it has worked out for codes."""

    def __init__(self, points):
        self.points = points
        self.names = {}
        self.narrowed = {}

    def named(self, codes):
        """The dict from the points 0, 1, .. of a skeleton to the texts of those of a value with these codes."""
        if codes not in self.names:
            places = places_of(codes, self.points)
            self.names[codes] = {(at, 1): value_text(places[at]) for at in range(len(places))}
        return self.names[codes]

    def told_text(self, pieces, codes):
        """The text of the value with these pieces, all of its text, and these codes."""
        names = self.named(codes)
        return "".join([piece if isinstance(piece, str) else names[piece] for piece in pieces])

    def narrow(self, pieces, many):
        """Those of many codes among which the one with the first text is, by the text of the first point alone."""
        places = [at for at in range(2) if at < len(pieces) and not isinstance(pieces[at], str)]
        if not places:
            return many[:1]
        at = places[0]
        # The mark behind the point tells whether a longer number, or a fraction, stands ahead of a shorter one.
        mark = pieces[at + 1][0] if at + 1 < len(pieces) else ""
        key = (tuple(many), pieces[at], mark)
        if key not in self.narrowed:
            least = min([self.named(codes)[pieces[at]] + mark for codes in many])
            self.narrowed[key] = [codes for codes in many if self.named(codes)[pieces[at]] + mark == least]
        return self.narrowed[key]


def first_of_slices(points, table, slices):
    """The first value, in the order of the texts, of the orbits with a key of a table and codes over points.

    Slices is a list of pairs of a key and such codes. It returns None if there are none.
    """
    namer, best = Namer(points), None
    for key, many in slices:
        skeleton = table[key]
        pieces, is_whole = text_pieces(skeleton)
        for codes in namer.narrow(pieces, many):
            text = namer.told_text(pieces, codes) if is_whole else value_text(built(skeleton, codes, points))
            if best is None or text < best[0]:
                best = (text, skeleton, codes)
    return None if best is None else built(best[1], best[2], points)

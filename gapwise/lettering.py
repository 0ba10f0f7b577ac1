"""Texts of the values of many orbits, told without building the values."""

from gapwise.codes import places_of
from gapwise.families import built
from gapwise.values import value_text


def text_pieces(value):
    """The text of the value, with its points between the strings, themselves; None if a set in it has points.

    With the points led elsewhere the strings stay: only a set's members would change their order. Between two points
    there is always a string.
    """
    pieces = []
    run = put_pieces(pieces, "", value)
    if run is None:
        return None
    if run:
        pieces.append(run)
    return pieces


def put_pieces(pieces, run, value):
    """Puts the pieces of the text behind others; run is the string they end with, the new one is returned, or None."""
    if isinstance(value, str):
        return run + value
    if value[0] == "set":
        return None if value[1] else run + value_text(value)
    if value[0] != "row":
        if run:
            pieces.append(run)
        pieces.append(value)
        return ""
    mark = "<"
    for part in value[1:]:
        if isinstance(part, str):
            run = run + mark + part
        else:
            run = put_pieces(pieces, run + mark, part)
            if run is None:
                return None
        mark = " "
    return run + ">"


class Namer:
    """Tells texts of values with codes over points; it keeps what it has worked out for codes."""

    def __init__(self, points):
        self.points = points
        self.names = {}
        self.narrowed = {}

    def named(self, codes):
        """The dict from the points 0, 1, .. of a skeleton to the texts of those of a value with these codes."""
        if codes not in self.names:
            places = places_of(codes, self.points)
            self.names[codes] = {(at, 1): value_text(places[at]) for at in range(len(places))}
        return self.names[codes]

    def told_text(self, skeleton, pieces, codes):
        """The text of the value with this skeleton and these codes; its pieces are passed, too."""
        if pieces is None:
            return value_text(built(skeleton, codes, self.points))
        names = self.named(codes)
        return "".join([piece if isinstance(piece, str) else names[piece] for piece in pieces])

    def narrow(self, pieces, many):
        """Those of many codes among which the one with the first text is, by the text of the first point alone."""
        places = [at for at in range(2) if at < len(pieces) and not isinstance(pieces[at], str)]
        if not places:
            return many[:1]
        at = places[0]
        # The mark behind the point tells whether a longer number, or a fraction, stands ahead of a shorter one.
        mark = pieces[at + 1][0] if at + 1 < len(pieces) else ""
        key = (tuple(many), pieces[at], mark)
        if key not in self.narrowed:
            least = min([self.named(codes)[pieces[at]] + mark for codes in many])
            self.narrowed[key] = [codes for codes in many if self.named(codes)[pieces[at]] + mark == least]
        return self.narrowed[key]


def first_of_slices(points, table, slices):
    """The first value, in the order of the texts, of the orbits with a key of a table and codes over points.

    Slices is a list of pairs of a key and such codes. It returns None if there are none.
    """
    namer, best = Namer(points), None
    for key, many in slices:
        skeleton = table[key]
        pieces = text_pieces(skeleton)
        for codes in many if pieces is None else namer.narrow(pieces, many):
            text = namer.told_text(skeleton, pieces, codes)
            if best is None or text < best[0]:
                best = (text, skeleton, codes)
    return None if best is None else built(best[1], best[2], points)

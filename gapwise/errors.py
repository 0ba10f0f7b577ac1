"""All errors of the package.

Each one is given a plain message, so that it keeps no list or dict that it names: its attributes are copies.
"""


def copied(value):
    """The value with all lists and dicts in it made anew, however deep they stand."""
    frames = [(value, parts_in(value), [])]
    while True:
        whole, parts, found = frames[-1]
        if len(found) < len(parts):
            part = parts[len(found)]
            frames.append((part, parts_in(part), []))
        else:
            frames.pop()
            made = put_together(whole, found)
            if not frames:
                return made
            frames[-1][2].append(made)


def parts_in(value):
    """The list of the parts of a list, a tuple or a dict; none of any other value."""
    if isinstance(value, dict):
        return [value[key] for key in value]
    return list(value) if isinstance(value, (list, tuple)) else []


def put_together(whole, parts):
    """The value made anew of its parts."""
    if isinstance(whole, dict):
        names = list(whole)
        return {names[at]: parts[at] for at in range(len(parts))}
    if isinstance(whole, tuple):
        return tuple(parts)
    return parts if isinstance(whole, list) else whole


class LineError(ValueError):
    """What stands above the errors about what was passed."""


class NotThere(LookupError):
    """What stands above the errors about what is not there."""


class TooMany(LineError):
    """There is more to tell than may be told."""

    def __init__(self):
        super().__init__("too many")
        self.called = "TooMany"


class BadMove(LineError):
    """A move lacks a point that has to be led, or is none."""

    def __init__(self):
        super().__init__("a point is not led")
        self.called = "BadMove"


class BadSample(LineError):
    """What was passed is no sample of the set."""

    def __init__(self):
        super().__init__("no sample")
        self.called = "BadSample"


class OtherGaps(LineError):
    """Two sizes are over unlike numbers of gaps."""

    def __init__(self):
        super().__init__("other gaps")
        self.called = "OtherGaps"


class BadSize(LineError):
    """A size that no standard set has."""

    def __init__(self):
        super().__init__("no size of a standard set")
        self.called = "BadSize"


class BadDeed(LineError):
    """What was passed is no deed."""

    def __init__(self):
        super().__init__("no deed")
        self.called = "BadDeed"


class NothingDone(LineError):
    """There is no deed to undo or to redo."""

    def __init__(self):
        super().__init__("nothing done")
        self.called = "NothingDone"


class BadLine(LineError):
    """A line that says nothing."""

    def __init__(self):
        super().__init__("no line")
        self.called = "BadLine"


class BadPoint(LineError):
    """No point has 0 as its second number."""

    def __init__(self, p, q):
        super().__init__("no point has 0 below")
        self.called = "BadPoint"
        self.p = copied(p)
        self.q = copied(q)


class BadValue(LineError):
    """The part of a value at the path is wrong."""

    def __init__(self, path):
        super().__init__("no value")
        self.called = "BadValue"
        self.path = copied(path)


class BadProgram(LineError):
    """The part of a program at the path has not its form."""

    def __init__(self, path):
        super().__init__("no program")
        self.called = "BadProgram"
        self.path = copied(path)


class MixedKinds(LineError):
    """The kinds in the part at the path do not go together."""

    def __init__(self, path):
        super().__init__("mixed kinds")
        self.called = "MixedKinds"
        self.path = copied(path)


class BadRules(LineError):
    """The part of rules at the path is wrong."""

    def __init__(self, path):
        super().__init__("no rules")
        self.called = "BadRules"
        self.path = copied(path)


class BadText(LineError):
    """No text of the form begins so, up to the place."""

    def __init__(self, place):
        super().__init__("no such text")
        self.called = "BadText"
        self.place = copied(place)


class TwiceTold(LineError):
    """A name is bound where it is bound already."""

    def __init__(self, name):
        super().__init__("a name told twice")
        self.called = "TwiceTold"
        self.name = copied(name)


class BadName(LineError):
    """A name that is none, or is taken."""

    def __init__(self, name):
        super().__init__("no name")
        self.called = "BadName"
        self.name = copied(name)


class NoSet(LineError):
    """The name has no set."""

    def __init__(self, name):
        super().__init__("no set")
        self.called = "NoSet"
        self.name = copied(name)


class WrongKind(LineError):
    """The name's value is not of the kind asked for."""

    def __init__(self, name):
        super().__init__("a value of another kind")
        self.called = "WrongKind"
        self.name = copied(name)


class Clash(LineError):
    """Two branches give the names unlike values."""

    def __init__(self, names):
        super().__init__("names clash")
        self.called = "Clash"
        self.names = copied(names)


class PartedBy(LineError):
    """Just one of two machines takes the word."""

    def __init__(self, word):
        super().__init__("machines parted by a word")
        self.called = "PartedBy"
        self.word = copied(word)


class NotEnough(LineError):
    """The points are not enough at the value."""

    def __init__(self, value):
        super().__init__("not enough points")
        self.called = "NotEnough"
        self.value = copied(value)


class BadReply(LineError):
    """No move leads to the reply of this number."""

    def __init__(self, number):
        super().__init__("no move leads to a reply")
        self.called = "BadReply"
        self.number = copied(number)


class NoPoint(NotThere):
    """The point is none of those asked for."""

    def __init__(self, point):
        super().__init__("no such point")
        self.called = "NoPoint"
        self.point = copied(point)


class NoMember(NotThere):
    """The value is no member."""

    def __init__(self, value):
        super().__init__("no such member")
        self.called = "NoMember"
        self.value = copied(value)


class NoLetter(NotThere):
    """The entry of this number is no letter."""

    def __init__(self, number):
        super().__init__("no such letter")
        self.called = "NoLetter"
        self.number = copied(number)


class NoDeed(NotThere):
    """There is no deed of this number."""

    def __init__(self, number):
        super().__init__("no such deed")
        self.called = "NoDeed"
        self.number = copied(number)


class UnknownName(NotThere):
    """The name is not bound."""

    def __init__(self, name):
        super().__init__("no such name")
        self.called = "UnknownName"
        self.name = copied(name)

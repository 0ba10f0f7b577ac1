"""Sets of rows of two."""

from gapwise.codes import crossings
from gapwise.families import opened
from gapwise.making import made
from gapwise.mixing import paired, paired_count


def merges(k, l):
    """In how many ways k and l ascending points can lie in one gap, where points of both may be one."""
    return crossings(k, l)


def many_pairs(one, other):
    """How many orbits the rows of a member of one and a member of other have over the joined points."""
    return paired_count(opened(one), opened(other))


def pairs(one, other):
    """The set of all rows of a member of one and a member of other."""
    return paired(opened(one), opened(other)).plain()


def firsts(many):
    """The set of the first parts of the members, which all are rows of two."""
    return made(many[1], [row[1] for row in many[2]])


def seconds(many):
    """The set of the second parts of the members, which all are rows of two."""
    return made(many[1], [row[2] for row in many[2]])

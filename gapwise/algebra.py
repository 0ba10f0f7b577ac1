"""Sets joined, met, taken from one another and compared."""

from gapwise.families import least, opened, ordered_keys, refined
from gapwise.lettering import first_of_slices
from gapwise.mixing import flattened, is_part, joined, rest, shared, slices
from gapwise.points import merged_points


def joined_points(one, other):
    """The points of two sets, ascending, each once."""
    return merged_points(one[1], other[1])


def join(one, other):
    """The set of all values that are members of one or of other."""
    return joined(opened(one), opened(other)).plain()


def both(one, other):
    """The set of the values that are members of each of the two."""
    return shared(opened(one), opened(other)).plain()


def less(one, other):
    """The set of the members of one that are no members of other."""
    return rest(opened(one), opened(other)).plain()


def is_within(one, other):
    """Whether each member of one is a member of other."""
    return is_part(opened(one), opened(other))


def outside(one, other):
    """The first orbit's value of one, over the joined points, that is no member of other; None if there is none."""
    left, right = opened(one), opened(other)
    points = joined_points(one, other)
    if points == one[1]:
        for value in one[2]:
            if not right.has(value):
                return value
        return None
    return first_of_slices(points, left.table(), slices(left, right, points, False, None))


def orbit_sets(many, points):
    """The sets of all values alike to one of those that orbits tells, in the same order."""
    joint = merged_points(many[1], points)
    table = refined(opened(many), joint)
    return [least(joint, {key: table[key]}).plain() for _, _, key in ordered_keys(joint, table)]


def all_of(many):
    """The set of all members of the set's members, which all are sets."""
    return flattened(opened(many)).plain()

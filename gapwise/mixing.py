"""Families made of families. Where a number of most orbits is passed, and not None, more of them are too many."""

from gapwise.codes import Passage, crossings, gap_counts, passage
from gapwise.errors import TooMany
from gapwise.families import Family, least, opened, put_value, refined, refined_count
from gapwise.placing import led
from gapwise.points import merged_points
from gapwise.values import support, value_text

MOST = 600


def check_many(many, most):
    if most is not None and many > most:
        raise TooMany()


def is_part(one, other):
    """Whether each member of one is a member of other."""
    if one.told() and not other.has(one.example()):
        return False
    way = passage(one.points, other.points)
    table = one.table()
    for key in table:
        # The orbit needs so many keys that other cannot have them all.
        if way.ways(key[1]) > other.told():
            return False
        for met in way.finer(key[1]):
            if not other.has_key((key[0], met), table[key]):
                return False
    return True


def is_same(one, other):
    """Whether two families in their least forms have the same members."""
    if one.points != other.points or one.told() != other.told():
        return False
    known = other.table()
    return all([key in known for key in one.table()])


def joined(one, other, most=MOST):
    """The family of all members of one or other."""
    points = merged_points(one.points, other.points)
    check_many(refined_count(one, points), most)
    check_many(refined_count(other, points), most)
    if is_part(other, one):
        return one
    if is_part(one, other):
        return other
    left, right = refined(one, points), refined(other, points)
    table = {key: part[key] for part in (left, right) for key in part}
    check_many(len(table), most)
    return least(points, table)


def united(one, other):
    """The family of all members of one or other, however many."""
    return joined(one, other, None)


def shared(one, other, most=MOST):
    """The family of the members of both."""
    points = merged_points(one.points, other.points)
    if one.told() > other.told():
        return least(points, parted(other, one, True, most))
    return least(points, parted(one, other, True, most))


def rest(one, other, most=MOST):
    """The family of the members of one that are no members of other."""
    points = merged_points(one.points, other.points)
    many = refined_count(one, points)
    if most is not None and many > most:
        check_many(many - refined_count(other, points), most)
    return least(points, parted(one, other, False, most))


def parted(one, other, inside, most):
    """The table, over the points of both, of the members of one that lie inside of other, or of those that don't."""
    points = merged_points(one.points, other.points)
    table = one.table()
    return {(key[0], codes): table[key] for key, many in slices(one, other, points, inside, most) for codes in many}


def slices(one, other, points, inside, most):
    """The keys of those orbits of one that have a part inside of other, or one that isn't, each with this part's codes.

    The codes are over points, those of both. An orbit of which other has all, or nothing, is not looked at piece by
    piece.
    """
    fine, back = passage(one.points, points), passage(points, other.points)
    across = passage(one.points, other.points)
    table, found, total = one.table(), [], 0
    for key in table:
        text, codes = key
        skeleton = table[key]
        if other.may_have(text):
            hits = [other.has_key((text, met), skeleton) for met in across.finer(codes)]
        else:
            hits = [False]
        if inside not in hits:
            continue
        if (not inside) not in hits:
            check_many(total + fine.ways(codes), most)
            many = fine.finer(codes)
        else:
            many = [finer for finer in fine.finer(codes)
                    if other.has_key((text, back.coarse(finer)), skeleton) == inside]
        total += len(many)
        check_many(total, most)
        found.append((key, many))
    return found


def with_member(family, value, most):
    """The family with one more member, None if it has it already. Most is the greatest number of orbits told.

    A value that is no member and has further points needs all points of both: led along the line with one of its
    further points, it is still no member, so no point can be left out for its sake.
    """
    if family.has(value):
        return None
    points = merged_points(family.points, support(value))
    if points == family.points:
        return least(points, with_value(family.table(), value, points))
    check_many(refined_count(family, points) + 1, most)
    return Family(points, with_value(refined(family, points), value, points))


def with_value(table, value, points):
    """A new table over points that has the value's orbit, too."""
    grown = {key: table[key] for key in table}
    put_value(grown, value, points)
    return grown


def flattened(family, most=MOST):
    """The family of all members of the members, which all are sets."""
    table, found = family.table(), {}
    for key in table:
        inner = opened(table[key])
        way = Passage(key[1], 2 * len(family.points))
        skeletons = inner.table()
        for text, codes in skeletons:
            check_many(way.ways(codes), most)
            for finer in way.finer(codes):
                found[(text, finer)] = skeletons[(text, codes)]
            check_many(len(found), most)
    return least(family.points, found)


def count_shapes(points, family):
    """How many orbits of the family over points have so many points in the gaps."""
    way = passage(family.points, points)
    known, counts = family.codes(), {}
    for codes in known:
        for finer in way.finer(codes):
            counted = gap_counts(finer, len(points))
            counts[counted] = counts.get(counted, 0) + known[codes]
    return counts


def paired_count(one, other):
    """How many orbits the rows of a member of one and a member of other have over the points of both."""
    points = merged_points(one.points, other.points)
    lefts, rights = count_shapes(points, one), count_shapes(points, other)
    total = 0
    for left in lefts:
        for right in rights:
            total += lefts[left] * rights[right] * ways_to_pair(left, right)
    return total


def ways_to_pair(left, right):
    """In how many ways points that lie so in the gaps can lie beside one another."""
    total = 1
    for k, l in zip(left, right):
        if k and l:
            total = total * crossings(k, l)
    return total


def paired(one, other, most=MOST):
    """The family of all rows of a member of one and a member of other."""
    if not one.told() or not other.told():
        return Family((), {})
    points = merged_points(one.points, other.points)
    check_many(refined_count(one, points), most)
    check_many(refined_count(other, points), most)
    check_many(paired_count(one, other), most)
    lefts, rights, found = refined(one, points), refined(other, points), {}
    for left in lefts:
        for right in rights:
            for codes, ones, others in laid_together(left[1], right[1]):
                row = ("row", ranked(lefts[left], ones), ranked(rights[right], others))
                found[(value_text(row), codes)] = row
    return least(points, found)


def ranked(skeleton, ranks):
    """The skeleton with the points 0, 1, .. led to those of the ranks."""
    return led(skeleton, {(at, 1): (ranks[at], 1) for at in range(len(ranks))})


def laid_together(ones, others):
    """All ways to lay points of the codes ones and of the codes others together.

    Each is told by the codes of all points, and by the ranks among these that the ones and the others have.
    """
    ways = [((), (), ())]
    finished = []
    while ways:
        grown = []
        for way in ways:
            nexts = next_ways(ones, others, way)
            if nexts:
                grown.extend(nexts)
            else:
                finished.append(way)
        ways = grown
    return finished


def next_ways(ones, others, way):
    """The ways with one more point; none if all points are laid."""
    codes, left, right = way
    rank = len(codes)
    one = ones[len(left)] if len(left) < len(ones) else None
    other = others[len(right)] if len(right) < len(others) else None
    found = []
    if one is not None and (other is None or one < other or one == other and one % 2 == 0):
        found.append(((*codes, one), (*left, rank), right))
    if other is not None and (one is None or other < one or one == other and one % 2 == 0):
        found.append(((*codes, other), left, (*right, rank)))
    if one is not None and one == other:
        found.append(((*codes, one), (*left, rank), (*right, rank)))
    return found

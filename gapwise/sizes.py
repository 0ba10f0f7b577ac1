"""Sizes of sets: polynomials in the numbers of a sample's points in the gaps."""

from math import comb

from gapwise.errors import OtherGaps
from gapwise.families import opened
from gapwise.mixing import count_shapes
from gapwise.points import merged_points


class Size:
    """A sum of terms: pairs of a shape, with a number for each gap, and of how often it counts."""

    def __init__(self, gaps, terms):
        counts = {}
        for shape, number in terms:
            counts[shape] = counts.get(shape, 0) + number
        self.gaps = gaps
        self.terms = tuple([(shape, counts[shape]) for shape in sorted(counts) if counts[shape] != 0])

    def __eq__(self, other):
        return isinstance(other, Size) and self.gaps == other.gaps and self.terms == other.terms

    def __call__(self, numbers):
        """What the size tells for so many points in the gaps."""
        return sum([number * ways_to_choose(numbers, shape) for shape, number in self.terms])

    def __add__(self, other):
        check_gaps(self, other)
        return Size(self.gaps, [*self.terms, *other.terms])

    def __sub__(self, other):
        check_gaps(self, other)
        return Size(self.gaps, [*self.terms, *multiplied(other.terms, -1)])

    def __neg__(self):
        return Size(self.gaps, multiplied(self.terms, -1))

    def __mul__(self, other):
        if not isinstance(other, Size):
            return Size(self.gaps, multiplied(self.terms, other))
        check_gaps(self, other)
        return Size(self.gaps, product_terms(self.terms, other.terms))

    def __rmul__(self, other):
        return Size(self.gaps, multiplied(self.terms, other))

    def finer(self, gap):
        """The size over one gap more that a new point in this gap makes."""
        terms = []
        for shape, number in self.terms:
            for many in (shape[gap], shape[gap] - 1):
                for below in range(many + 1):
                    terms.append(((*shape[:gap], below, many - below, *shape[gap + 1:]), number))
        return Size(self.gaps + 1, terms)

    def greatest(self):
        """The list of the terms whose shape lies below no other term's shape, ascending."""
        tops = []
        # A shape below some other one lies below one that is met ahead of it here.
        for _, counts in sorted([(-sum(shape), shape) for shape, _ in self.terms]):
            if not any([lies_below(counts, top) for top in tops]):
                tops.append(counts)
        return [(shape, number) for shape, number in self.terms if shape in tops]

    def at_most(self, other):
        """Whether the size is at most other, far out in all gaps."""
        more = other - self
        return all([number > 0 for _, number in more.greatest()])


def check_gaps(one, other):
    if one.gaps != other.gaps:
        raise OtherGaps()


def ways_to_choose(numbers, shape):
    """In how many ways the shape's points can be chosen of so many in the gaps."""
    total = 1
    for n, k in zip(numbers, shape):
        total = total * comb(n, k)
    return total


def multiplied(terms, number):
    """The list of the terms, each so many times."""
    return [(shape, number * many) for shape, many in terms]


def product_terms(left, right):
    """The list of the terms of a product, not put together."""
    found = []
    for one, many in left:
        for other, times in right:
            rows = [((), many * times)]
            for a, b in zip(one, other):
                ways = [(c, comb(c, a) * comb(a, c - b)) for c in range(max(a, b), a + b + 1)]
                rows = [((*shape, c), number * factor) for shape, number in rows for c, factor in ways]
            found.extend(rows)
    return found


def lies_below(shape, other):
    """Whether a shape has in no gap more than an unlike one."""
    return shape != other and all([k <= n for k, n in zip(shape, other)])


def size_of(many, points):
    """The size of a set over its own points and further ones."""
    joined = merged_points(many[1], points)
    counts = count_shapes(joined, opened(many))
    return Size(len(joined) + 1, [(shape, counts[shape]) for shape in counts])

"""The move that shows that two values are alike."""

from gapwise.placing import are_alike
from gapwise.points import merged_points
from gapwise.values import support


def alike_moves(one, other, *, points=()):
    """The move that keeps the points and makes other of one; None if the two are not alike over points."""
    if not are_alike(points, one, other):
        return None
    news = dict(zip(support(one), support(other)))
    return tuple([(old, news.get(old, old)) for old in merged_points(support(one), points)])

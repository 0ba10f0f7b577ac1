"""Rooms: the places of a web between which its ties lead, in whichever directions."""

from gapwise.algebra import join
from gapwise.errors import NoMember
from gapwise.making import is_in, made
from gapwise.maps import back
from gapwise.papers import is_value
from gapwise.webs import path, places, reached, searches


def both_ways(web):
    """The web joined with its ties turned about."""
    return join(web, back(web))


def room_of(web, x):
    """The set of the places that are in one room with any value."""
    if not is_value(x) or not is_in(x, places(web)):
        raise NoMember(x)
    return reached(both_ways(web), x)


def rooms(web):
    """The set of all rooms."""
    return made(web[1], [search.reached() for _, search in searches(both_ways(web))])


def linked(web, x, y):
    """A shortest walk from x to y whichever way the ties lead, or the set of all that is reached from x so."""
    return path(both_ways(web), x, y)

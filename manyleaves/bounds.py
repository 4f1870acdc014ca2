"""Bounds: what no busy set of a web of any size costs less than."""

from manyleaves.musts import must_rows
from manyleaves.parts import is_place
from manyleaves.shares import raised, right_shares, worth_added
from manyleaves.webs import is_pair
from manyleaves.whys import right_why


def places_of(sures):
    """The places of some sures, in their order."""
    return tuple([place for place, why in sures])


def is_sure(web, thing):
    """Whether a thing is a place with a why for barring it alone."""
    if not is_pair(thing) or not is_place(web, thing[0]):
        return False
    return right_why(web, (), (thing[0],), thing[1])


def are_sures(web, thing):
    """Whether a thing is a tuple of sures whose places are rising."""
    if not isinstance(thing, tuple):
        return False
    ahead = -1
    for row in thing:
        if not is_sure(web, row) or row[0] <= ahead:
            return False
        ahead = row[0]
    return True


def right_bound(web, prices, thing):
    """Whether a thing is a bound for a web and prices."""
    if not is_pair(thing) or not are_sures(web, thing[0]):
        return False
    return right_shares(web, prices, places_of(thing[0]), (), thing[1])


def least_price(prices, bound):
    """The least whole number that is not below what a bound is worth."""
    sures, shares = bound
    top, bottom = worth_added(prices, places_of(sures), shares)
    # Two minus signs: // goes down, and the least number above is asked for.
    return -(-top // bottom)


def bound_of(web, prices):
    """A bound that has all places that must be busy among its sures."""
    sures = must_rows(web)
    return (sures, raised(web, prices, places_of(sures), (), tuple(range(web[0]))))

"""Places, lots, states, prices, fractions, and things that are the same, as the other files need them."""

from manyleaves.ints import is_between, is_int
from manyleaves.webs import is_rising, neighbour_rows


def is_place(web, thing):
    """Whether a thing is a place of the web."""
    return is_between(thing, 0, web[0] - 1)


def is_place_row(web, thing):
    """Whether a thing is a rising tuple of places of the web, perhaps none."""
    if not isinstance(thing, tuple):
        return False
    for item in thing:
        if not is_place(web, item):
            return False
    # Only now are the items surely such as can be compared.
    return is_rising(thing)


def is_same(told, thing):
    """Whether a thing is just what is told, made of tuples and whole numbers."""
    # == alone would take True for 1.
    if not isinstance(told, tuple):
        return is_int(thing) and thing == told
    if not isinstance(thing, tuple) or len(thing) != len(told):
        return False
    for one, other in zip(told, thing):
        if not is_same(one, other):
            return False
    return True


def lot_rows(web):
    """For each place the list of it and its neighbours."""
    return [[place] + row for place, row in enumerate(neighbour_rows(web))]


def have_common(one, other):
    """Whether a place of the one is in the other, too."""
    return any([place in other for place in one])


def places_but(web, some):
    """All places of the web but some, rising."""
    among = {place: True for place in some}
    return tuple([place for place in range(web[0]) if place not in among])


def free_places(web, held, barred):
    """The places that are neither held nor barred, rising."""
    return places_but(web, held + barred)


def with_place(places, place):
    """Some places and one more, rising."""
    return tuple(sorted(places + (place,)))


def price_of(prices, places):
    """The price of some places together."""
    return sum([prices[place] for place in places])


def common_part(one, other):
    """The greatest number that divides both of two numbers, not both 0."""
    while other != 0:
        one, other = other, one % other
    return one


def added(fractions):
    """The sum (top, bottom) of a list of fractions, perhaps not in lowest terms."""
    top, bottom = 0, 1
    for more_top, more_bottom in fractions:
        top, bottom = top * more_bottom + more_top * bottom, bottom * more_bottom
    return (top, bottom)


def lowest(top, bottom):
    """The fraction in lowest terms."""
    common = common_part(top, bottom)
    return (top // common, bottom // common)

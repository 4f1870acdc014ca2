"""Webs: places, the ties between them, and how they hang together."""

from manyleaves.errors import NoWeb
from manyleaves.ints import is_between

LEAST_PLACES = 3
MOST_PLACES = 60
MOST_TIES = 200


def is_pair(thing):
    """Whether a thing is a tuple of two."""
    return isinstance(thing, tuple) and len(thing) == 2


def is_tie(thing, places):
    """Whether a thing is a pair of two places below a number, the lesser one first."""
    if not is_pair(thing):
        return False
    a, b = thing
    return is_between(a, 0, places - 1) and is_between(b, a + 1, places - 1)


def tie_of(one, other):
    """The tie of two unlike places, the lesser one first."""
    return (min(one, other), max(one, other))


def is_rising(items):
    """Whether each item is greater than the one ahead."""
    for at in range(1, len(items)):
        if not items[at - 1] < items[at]:
            return False
    return True


def is_tie_row(thing, places):
    """Whether a thing is a rising tuple of ties between places below a number."""
    if not isinstance(thing, tuple):
        return False
    for item in thing:
        if not is_tie(item, places):
            return False
    # Only now are the items surely such as can be compared.
    return is_rising(thing)


def is_web(thing):
    """Whether a thing is a web."""
    if not is_pair(thing):
        return False
    places, ties = thing
    if not is_between(places, LEAST_PLACES, MOST_PLACES):
        return False
    if not is_tie_row(ties, places) or len(ties) > MOST_TIES:
        return False
    return in_one_piece(thing)


def check_web(thing):
    """Refuse with NoWeb what is no web."""
    if not is_web(thing):
        raise NoWeb()


def neighbour_rows(web):
    """For each place the list of those tied to it, rising."""
    places, ties = web
    rows = [[] for place in range(places)]
    # The ties are rising, so a place meets its lesser neighbours first, in order, and then its greater ones.
    for a, b in ties:
        rows[a].append(b)
        rows[b].append(a)
    return rows


def neighbours(web, place):
    """The places tied to a place, rising."""
    return tuple(neighbour_rows(web)[place])


def touched(web, places):
    """All other places that have a neighbour among some places, rising."""
    rows = neighbour_rows(web)
    among = {place: True for place in places}
    found = {}
    for place in places:
        for other in rows[place]:
            if other not in among:
                found[other] = True
    return tuple(sorted(found))


def piece_from(rows, among, start):
    """The places that one comes to from a start through places among some alone, rising."""
    met = {start: True}
    waiting = [start]
    while waiting:
        place = waiting.pop()
        for other in rows[place]:
            if other in among and other not in met:
                met[other] = True
                waiting.append(other)
    return tuple(sorted(met))


def pieces(web, places):
    """The lots in which some places hang together by the ties between them, by their first ones."""
    rows = neighbour_rows(web)
    left = {place: True for place in places}
    lots = []
    for place in places:
        if place in left:
            lot = piece_from(rows, left, place)
            lots.append(lot)
            for other in lot:
                del left[other]
    return tuple(lots)


def in_one_piece(web):
    """Whether all places of a web hang together."""
    return len(pieces(web, tuple(range(web[0])))) == 1

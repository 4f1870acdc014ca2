"""Lean sets: busy sets that need each of their places, and what for."""

from manyleaves.parts import have_common, is_place, is_place_row, lot_rows
from manyleaves.sets import right_set
from manyleaves.webs import pieces, touched


def all_but(places, some):
    """Those of some places that are not among others."""
    return tuple([place for place in places if place not in some])


def has_alone(lot, busy, place):
    """Whether a lot has a place and no other one of a busy set."""
    return [other for other in busy if other in lot] == [place]


def right_own(web, busy, place, thing):
    """Whether a thing is a place whose lot has the place and no other one of a busy set."""
    return is_place(web, thing) and has_alone(lot_rows(web)[thing], busy, place)


def right_side(web, busy, place, thing):
    """Whether a thing is a side of a busy set without the place, and no tie leads from it to the others."""
    if not is_place_row(web, thing):
        return False
    left = all_but(busy, (place,))
    rest = all_but(left, thing)
    if thing == () or rest == () or all_but(thing, left) != ():
        return False
    return not have_common(touched(web, thing), rest)


def right_need(web, busy, place, thing):
    """Whether a thing tells what a busy set needs a place for."""
    if not isinstance(thing, tuple) or len(thing) != 2:
        return False
    if thing[0] == "own":
        return right_own(web, busy, place, thing[1])
    return thing[0] == "parts" and right_side(web, busy, place, thing[1])


def right_needs(web, busy, thing):
    """Whether a thing is needs of a busy set."""
    if not isinstance(thing, tuple) or len(thing) != len(busy):
        return False
    for place, need in zip(busy, thing):
        if not right_need(web, busy, place, need):
            return False
    return True


def need_of(web, busy, place):
    """What a lean set needs a place for."""
    for other, lot in enumerate(lot_rows(web)):
        if has_alone(lot, busy, place):
            return ("own", other)
    # All others touch everything, so that they do not hang together.
    return ("parts", pieces(web, all_but(busy, (place,)))[0])


def lean_of(web, busy, order):
    """What is left of a busy set, each place in an order left out where it can be, and needs of that."""
    left = busy
    for place in order:
        fewer = all_but(left, (place,))
        if right_set(web, fewer):
            left = fewer
    return (left, tuple([need_of(web, left, place) for place in left]))

"""Whys: what tells that no busy set keeps a state."""

from manyleaves.parts import have_common, is_place, is_place_row, lot_rows, places_but
from manyleaves.webs import pieces, touched


def right_bare(web, barred, thing):
    """Whether a thing is a why by a place that is barred with all its neighbours."""
    if len(thing) != 2 or thing[0] != "bare" or not is_place(web, thing[1]):
        return False
    return not have_common(lot_rows(web)[thing[1]], places_but(web, barred))


def is_closed(web, barred, side):
    """Whether no place of a side is barred and each tie out of it leads to a barred place."""
    return not have_common(side, barred) and not have_common(touched(web, side), places_but(web, barred))


def places_asked(web, held, barred, place):
    """The places one of which each busy set that keeps the state has for the sake of a place."""
    if place in held:
        return [place]
    return [other for other in lot_rows(web)[place] if other not in barred]


def right_apart(web, held, barred, thing):
    """Whether a thing is a why by a side that no way leads out of."""
    if len(thing) != 4 or thing[0] != "apart":
        return False
    side, p, q = thing[1], thing[2], thing[3]
    if not is_place_row(web, side) or not is_place(web, p) or not is_place(web, q):
        return False
    if not is_closed(web, barred, side):
        return False
    if have_common(places_asked(web, held, barred, p), places_but(web, side)):
        return False
    return not have_common(places_asked(web, held, barred, q), side)


def right_why(web, held, barred, thing):
    """Whether a thing is a why of a state."""
    if not isinstance(thing, tuple):
        return False
    return right_bare(web, barred, thing) or right_apart(web, held, barred, thing)


def why_not(web, held, barred):
    """None where a busy set keeps the state, else a why of it."""
    # What is held is not barred, so it is enough to look at all places that are not barred.
    kept = places_but(web, barred)
    for place, lot in enumerate(lot_rows(web)):
        if not have_common(lot, kept):
            return ("bare", place)
    lots = pieces(web, kept)
    if len(lots) == 1:
        return None
    return ("apart", lots[0], lots[0][0], lots[1][0])

"""Busy sets of a web, and their trees."""

from manyleaves.parts import is_place_row
from manyleaves.roots import tree_of
from manyleaves.webs import neighbour_rows, pieces, touched


def right_set(web, thing):
    """Whether a thing is a busy set of the web."""
    if not is_place_row(web, thing):
        return False
    # No places at all are no piece at all, so that they are no busy set.
    return len(pieces(web, thing)) == 1 and len(thing) + len(touched(web, thing)) == web[0]


def tree_by(web, busy):
    """A tree of the web of which all places outside a busy set are leaves."""
    rows = neighbour_rows(web)
    root = busy[0]
    parents = [None for row in rows]
    waiting = [root]
    while waiting:
        place = waiting.pop()
        for other in rows[place]:
            if other != root and parents[other] is None:
                parents[other] = place
                # Nothing hangs on a place outside the set: it stays a leaf.
                if other in busy:
                    waiting.append(other)
    return tree_of(tuple(parents))

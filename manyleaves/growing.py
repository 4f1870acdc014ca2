"""Growing: places are made busy one by one until all others are touched."""

from manyleaves.climbing import climbed
from manyleaves.parts import places_but
from manyleaves.webs import neighbour_rows, tie_of, touched


def beside(row, untouched):
    """Those of a place's neighbours that are untouched, rising."""
    return [other for other in row if other in untouched]


def next_busy(rows, border, untouched):
    """The first place of a border of those with the most untouched neighbours."""
    return max(border, key=lambda place: len(beside(rows[place], untouched)))


def grown(web):
    """The places in the order in which they became busy, and the tree of the ties by which they touched the others."""
    rows = neighbour_rows(web)
    order = ()
    ties = []
    # Ahead of the first busy place all are untouched, and each one may become busy.
    untouched = border = tuple(range(web[0]))
    while untouched:
        place = next_busy(rows, border, untouched)
        ties.extend([tie_of(place, other) for other in beside(rows[place], untouched)])
        order = order + (place,)
        border = touched(web, order)
        untouched = places_but(web, order + border)
    return (order, tuple(sorted(ties)))


def climbed_from_grown(web):
    """The tree that is climbed to from the grown one."""
    order, tree = grown(web)
    rows, stopped = climbed(web, tree)
    return stopped

"""Places that must be busy, and trees for those that need not."""

from manyleaves.parts import places_but
from manyleaves.sets import tree_by
from manyleaves.whys import why_not


def must_rows(web):
    """A row (place, why) for each place that must be busy, the why for barring it alone, rising."""
    rows = [(place, why_not(web, (), (place,))) for place in range(web[0])]
    return tuple([row for row in rows if row[1] is not None])


def musts(web):
    """The places that each busy set has, rising."""
    return tuple([place for place, why in must_rows(web)])


def need_not(web, place):
    """A tree of which a place is a leaf, None where the place must be busy."""
    if why_not(web, (), (place,)) is not None:
        return None
    # Nothing tells against all the others, so that they are a busy set.
    return tree_by(web, places_but(web, (place,)))

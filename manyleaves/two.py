"""Two trees apart, or cases that none are."""

from manyleaves.errors import TooGreat
from manyleaves.exact import MOST_EXACT
from manyleaves.parts import free_places, with_place
from manyleaves.sets import tree_by
from manyleaves.whys import why_not


def end_of_colouring(web, zero, one):
    """Cases of a colouring that part nothing, None where there are none."""
    for colour, own, others in ((0, zero, one), (1, one, zero)):
        why = why_not(web, own, others)
        if why is not None:
            return why[:1] + (colour,) + why[1:]
    return None


def is_forced(web, zero, one, place):
    """Whether a place cannot have the one colour or the other."""
    if end_of_colouring(web, with_place(zero, place), one) is not None:
        return True
    return end_of_colouring(web, zero, with_place(one, place)) is not None


def place_to_part(web, zero, one, free):
    """The first place without a colour that is forced, else the first one."""
    # One side of a forced place is at its end at once, so that far fewer cases are needed.
    forced = [place for place in free if is_forced(web, zero, one, place)]
    return (forced or free)[0]


def two_or_none(web, zero, one):
    """Two trees that are apart, each busy in places of its colour alone, or cases of the colouring."""
    end = end_of_colouring(web, zero, one)
    if end is not None:
        return ("none", end)
    free = free_places(web, zero, one)
    if not free:
        # Nothing tells against the places of either colour, so that they are a busy set each.
        return ("two", tree_by(web, zero), tree_by(web, one))
    place = place_to_part(web, zero, one, free)
    first = two_or_none(web, with_place(zero, place), one)
    if first[0] == "two":
        return first
    second = two_or_none(web, zero, with_place(one, place))
    if second[0] == "two":
        return second
    return ("none", ("part", place, first[1], second[1]))


def two_trees(web):
    """Two trees that are apart, or cases that none are."""
    if web[0] > MOST_EXACT:
        raise TooGreat()
    # The two colours may be exchanged, so that it is enough to give 0 the colour 0.
    return two_or_none(web, (0,), ())

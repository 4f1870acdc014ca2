"""Two trees that share no busy place, and cases that no two are apart."""

from manyleaves.cases import is_part
from manyleaves.ints import is_between
from manyleaves.parts import have_common, with_place
from manyleaves.trees import busy_of, right_tree
from manyleaves.webs import is_pair
from manyleaves.whys import right_why


def right_two(web, thing):
    """Whether a thing is a pair of trees of the web that are apart."""
    if not is_pair(thing) or not right_tree(web, thing[0]) or not right_tree(web, thing[1]):
        return False
    return not have_common(busy_of(thing[0]), busy_of(thing[1]))


def right_coloured(web, colours, thing):
    """Whether a thing is cases of a colouring that part nothing."""
    if not isinstance(thing, tuple) or len(thing) < 2 or not is_between(thing[1], 0, 1):
        return False
    colour = thing[1]
    # Without its colour it is a why of the state in which that colour is held and the other one barred.
    return right_why(web, colours[colour], colours[1 - colour], thing[:1] + thing[2:])


def right_colouring(web, colours, thing):
    """Whether a thing is cases of a colouring."""
    zero, one = colours
    # Each part takes a place without a colour, so that this goes no deeper than there are places.
    if not is_part(web, zero, one, thing):
        return right_coloured(web, colours, thing)
    word, place, first, second = thing
    if not right_colouring(web, (with_place(zero, place), one), first):
        return False
    return right_colouring(web, (zero, with_place(one, place)), second)


def right_none(web, thing):
    """Whether a thing is cases of the colouring in which 0 alone has a colour, 0."""
    return right_colouring(web, ((0,), ()), thing)

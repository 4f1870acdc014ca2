"""Cases: what tells that no busy set that keeps a state costs at most a limit."""

from manyleaves.parts import is_place, price_of, with_place
from manyleaves.shares import is_worth_above, right_shares
from manyleaves.thin import is_thin
from manyleaves.whys import right_why


def is_over(prices, held, limit):
    """Whether the held places alone cost more than the limit."""
    return price_of(prices, held) > limit


def is_known_thin(web, prices, held, barred, limit):
    """Whether all prices are 1, so that a limit tells how many places there may be, and it is thin."""
    return all([price == 1 for price in prices]) and is_thin(web, held, barred, limit)


def right_end(web, prices, held, barred, limit, thing):
    """Whether a thing is cases that part nothing."""
    if not isinstance(thing, tuple):
        return False
    if thing == ("over",):
        return is_over(prices, held, limit)
    if thing == ("thin",):
        return is_known_thin(web, prices, held, barred, limit)
    if len(thing) == 2 and thing[0] == "shares":
        return right_shares(web, prices, held, barred, thing[1]) and is_worth_above(prices, held, thing[1], limit)
    return right_why(web, held, barred, thing)


def is_part(web, held, barred, thing):
    """Whether a thing has the form of a part by a place neither held nor barred."""
    if not isinstance(thing, tuple) or len(thing) != 4 or thing[0] != "part":
        return False
    return is_place(web, thing[1]) and thing[1] not in held and thing[1] not in barred


def right_cases(web, prices, held, barred, limit, thing):
    """Whether a thing is cases for a web, prices, a state and a limit."""
    # Each part takes a place that was free, so that this goes no deeper than there are places.
    if not is_part(web, held, barred, thing):
        return right_end(web, prices, held, barred, limit, thing)
    word, place, one, other = thing
    if not right_cases(web, prices, with_place(held, place), barred, limit, one):
        return False
    return right_cases(web, prices, held, with_place(barred, place), limit, other)

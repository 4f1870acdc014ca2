"""The cheapest busy set of a small web, with cases that nothing is cheaper."""

from manyleaves.cases import is_known_thin, is_over
from manyleaves.errors import NoSet, TooGreat
from manyleaves.parts import free_places, lot_rows, places_but, price_of, with_place
from manyleaves.sets import right_set
from manyleaves.shares import is_worth_above, raised
from manyleaves.webs import touched
from manyleaves.whys import why_not

MOST_EXACT = 12


def end_of(web, prices, held, barred, limit):
    """Cases for a limit that part nothing, None where none are seen."""
    if is_over(prices, held, limit):
        return ("over",)
    why = why_not(web, held, barred)
    if why is not None:
        return why
    shares = raised(web, prices, held, barred, tuple(range(web[0])))
    if is_worth_above(prices, held, shares, limit):
        return ("shares", shares)
    if is_known_thin(web, prices, held, barred, limit):
        return ("thin",)
    return None


def place_to_part(web, held, barred):
    """The free place beside the held ones whose lot has the most places that are not reached yet."""
    free = free_places(web, held, barred)
    border = touched(web, held)
    reached = held + border
    news = [len([other for other in lot if other not in reached]) for lot in lot_rows(web)]
    # Going on from what is held, few parts are needed; where nothing is beside it, any free place will do.
    beside = [place for place in free if place in border]
    return max(beside or free, key=lambda place: news[place])


def best_and_cases(web, prices, held, barred, best):
    """The cheapest of a busy set and those that keep a state, and cases of the state for one less than it costs."""
    end = end_of(web, prices, held, barred, price_of(prices, best) - 1)
    if end is not None:
        return (best, end)
    if right_set(web, held):
        # It is not over the limit, so it is cheaper than the best so far, and over one less than it costs.
        return (held, ("over",))
    place = place_to_part(web, held, barred)
    # Cases for a limit are cases for each lower one, too: the first ones stay right if the best becomes cheaper.
    best, one = best_and_cases(web, prices, with_place(held, place), barred, best)
    best, other = best_and_cases(web, prices, held, with_place(barred, place), best)
    return (best, ("part", place, one, other))


def cheapest_set(web, prices, held, barred):
    """A cheapest busy set that keeps the state, and cases for a limit of its price less 1."""
    if web[0] > MOST_EXACT:
        raise TooGreat()
    if why_not(web, held, barred) is not None:
        raise NoSet()
    best, cases = best_and_cases(web, prices, held, barred, places_but(web, barred))
    # Once more, by the cheapest one from the start: what needs no part is not parted then.
    return best_and_cases(web, prices, held, barred, best)

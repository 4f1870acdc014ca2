"""Shares: what each place asks of its lot, and what that is worth."""

from manyleaves.ints import is_int
from manyleaves.parts import added, common_part, free_places, have_common, is_place, lot_rows, lowest, price_of


def is_share_row(web, thing):
    """Whether a thing is a place with a share above 0 in lowest terms."""
    if not isinstance(thing, tuple) or len(thing) != 3:
        return False
    place, top, bottom = thing
    if not is_place(web, place) or not is_int(top) or not is_int(bottom):
        return False
    return top >= 1 and bottom >= 1 and common_part(top, bottom) == 1


def are_share_rows(web, thing):
    """Whether a thing is a rising tuple of places with shares, no place in two rows."""
    if not isinstance(thing, tuple):
        return False
    ahead = -1
    for row in thing:
        # Rows whose places rise are rising themselves; two rows of one place can be rising as well.
        if not is_share_row(web, row) or row[0] <= ahead:
            return False
        ahead = row[0]
    return True


def are_within_prices(web, prices, free, shares):
    """Whether the shares of those whose lot has it are at most the price of each free place."""
    lots = lot_rows(web)
    fractions = {place: (top, bottom) for place, top, bottom in shares}
    for place in free:
        # A lot has a place just where that place's lot has it.
        top, bottom = added([fractions[other] for other in lots[place] if other in fractions])
        if top > prices[place] * bottom:
            return False
    return True


def right_shares(web, prices, held, barred, thing):
    """Whether a thing is shares for prices and a state."""
    if not are_share_rows(web, thing):
        return False
    lots = lot_rows(web)
    for row in thing:
        if have_common(lots[row[0]], held):
            return False
    return are_within_prices(web, prices, free_places(web, held, barred), thing)


def worth_added(prices, held, shares):
    """All shares and the price of the held places together, a fraction perhaps not in lowest terms."""
    fractions = [(top, bottom) for place, top, bottom in shares]
    return added([(price_of(prices, held), 1)] + fractions)


def worth_of(prices, held, shares):
    """All shares and the price of the held places together, a fraction in lowest terms."""
    top, bottom = worth_added(prices, held, shares)
    return lowest(top, bottom)


def is_worth_above(prices, held, shares, limit):
    """Whether the worth of shares is above a limit."""
    # Lowest terms of long fractions take their time, and are not needed here.
    top, bottom = worth_added(prices, held, shares)
    return top > limit * bottom


def share_left(lot, left, held, barred):
    """The greatest whole share that what is left of the prices of a lot lets be, 0 where there may be none."""
    bounds = [left[place] for place in lot if place not in barred]
    if have_common(lot, held) or not bounds:
        return 0
    return min(bounds)


def raised(web, prices, held, barred, order):
    """The shares that are raised place by place in an order."""
    lots = lot_rows(web)
    left = list(prices)
    rows = []
    for place in order:
        share = share_left(lots[place], left, held, barred)
        if share > 0:
            rows.append((place, share, 1))
            for other in lots[place]:
                left[other] -= share
    return tuple(sorted(rows))

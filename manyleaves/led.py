"""Led over: webs and papers with their places renamed, place i to names[i]."""

from manyleaves.webs import tie_of


def led_places(places, names):
    """Places led over, rising."""
    return tuple(sorted([names[place] for place in places]))


def led_tie(tie, names):
    """A tie led over, the lesser place first."""
    return tie_of(names[tie[0]], names[tie[1]])


def led_tree(tree, names):
    """A tree led over, rising."""
    return tuple(sorted([led_tie(tie, names) for tie in tree]))


def led_web(web, names):
    """A web led over."""
    places, ties = web
    return (places, led_tree(ties, names))


def led_prices(prices, names):
    """Prices led over: names[i] has the price that i had."""
    led = list(prices)
    for place, price in enumerate(prices):
        led[names[place]] = price
    return tuple(led)


def led_why(why, names):
    """A why led over."""
    if why[0] == "bare":
        return ("bare", names[why[1]])
    word, side, p, q = why
    return ("apart", led_places(side, names), names[p], names[q])


def led_shares(shares, names):
    """Shares led over, rising."""
    return tuple(sorted([(names[place], top, bottom) for place, top, bottom in shares]))


def led_end(cases, names):
    """Cases that part nothing, led over."""
    if cases == ("over",) or cases == ("thin",):
        return cases
    if cases[0] == "shares":
        return ("shares", led_shares(cases[1], names))
    return led_why(cases, names)


def led_cases(cases, names):
    """Cases led over."""
    if cases[0] != "part":
        return led_end(cases, names)
    word, place, one, other = cases
    return ("part", names[place], led_cases(one, names), led_cases(other, names))


def led_none(cases, names):
    """Cases for none apart led over."""
    if cases[0] != "part":
        # Without its colour, which is no place, it has the form of a why.
        why = led_why(cases[:1] + cases[2:], names)
        return why[:1] + cases[1:2] + why[1:]
    word, place, one, other = cases
    return ("part", names[place], led_none(one, names), led_none(other, names))


def led_row(row, names):
    """A row of one exchange or of two led over: ties, and last how many leaves there are."""
    return tuple([led_tie(tie, names) for tie in row[:-1]]) + row[-1:]


def led_rows(rows, names):
    """Rows led over, rising."""
    return tuple(sorted([led_row(row, names) for row in rows]))

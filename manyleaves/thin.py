"""Whether a web is too thin for few busy places."""

from manyleaves.parts import free_places, price_of
from manyleaves.webs import neighbour_rows


def is_thin(web, held, barred, limit):
    """Whether the ties of as many places as the limit lets be, the held ones among them, are too few to reach all."""
    gains = [len(row) - 1 for row in neighbour_rows(web)]
    most = sorted([gains[place] for place in free_places(web, held, barred)], reverse=True)
    many = max(0, limit - len(held))
    return 2 + price_of(gains, held) + sum(most[:many]) < web[0]

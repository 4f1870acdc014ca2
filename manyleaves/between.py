"""The most leaves of a web of any size, between two numbers."""

from manyleaves.bounds import bound_of, least_price
from manyleaves.growing import climbed_from_grown
from manyleaves.most import ones
from manyleaves.trees import leaves_of


def between(web):
    """Two numbers: the most leaves are neither fewer than the one nor more than the other."""
    prices = ones(web)
    return (len(leaves_of(climbed_from_grown(web))), web[0] - least_price(prices, bound_of(web, prices)))

"""The cheapest tree of those that keep wishes."""

from manyleaves.cases import right_cases
from manyleaves.exact import cheapest_set
from manyleaves.parts import have_common, price_of
from manyleaves.sets import tree_by
from manyleaves.trees import busy_of, right_tree
from manyleaves.webs import is_pair


def cheapest_tree(web, prices, wishes):
    """A tree with the least price of those that keep the wishes, and cases for a limit of its price less 1."""
    # The busy places of each tree that keeps the wishes are a busy set with the wishes barred, and a cheapest such
    # set has a tree whose busy places are just it: fewer would be cheaper.
    busy, cases = cheapest_set(web, prices, (), wishes)
    return (tree_by(web, busy), cases)


def right_cheapest(web, prices, wishes, thing):
    """Whether a thing is a tree that keeps the wishes with cases for a limit of its price less 1."""
    if not is_pair(thing) or not right_tree(web, thing[0]):
        return False
    busy = busy_of(thing[0])
    if have_common(busy, wishes):
        return False
    return right_cases(web, prices, (), wishes, price_of(prices, busy) - 1, thing[1])

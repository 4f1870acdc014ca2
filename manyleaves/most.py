"""The tree with the most leaves of those that keep wishes."""

from manyleaves.dear import cheapest_tree, right_cheapest


def ones(web):
    """A price of 1 for each place: the fewest busy places are the cheapest then, and leave the most leaves."""
    return tuple([1 for place in range(web[0])])


def most_leaves(web, wishes):
    """A tree with the most leaves of those that keep the wishes, and cases for one busy place less."""
    return cheapest_tree(web, ones(web), wishes)


def right_most(web, wishes, thing):
    """Whether a thing is a tree that keeps the wishes with cases for one busy place less."""
    return right_cheapest(web, ones(web), wishes, thing)

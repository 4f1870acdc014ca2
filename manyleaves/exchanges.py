"""Exchanges in a tree: a tie is put in and another one taken out."""

from manyleaves.trees import tree_rows, way_in
from manyleaves.webs import tie_of


def exchanged(tree, put, taken):
    """The tree that an exchange leaves."""
    return tuple(sorted([tie for tie in tree if tie != taken] + [put]))


def ties_to_put(web, tree):
    """The ties of the web that are not in the tree, rising."""
    among = {tie: True for tie in tree}
    return [tie for tie in web[1] if tie not in among]


def ties_between(tree, one, other):
    """The ties on the way between two places in the tree, rising."""
    way = way_in(tree, one, other)
    return sorted([tie_of(a, b) for a, b in zip(way, way[1:])])


def ties_at(tree):
    """For each place in how many ties of the tree it is."""
    return [len(row) for row in tree_rows(tree)]


def leaves_gained(counts, put, taken):
    """How many leaves more there are behind an exchange, by the ties at each place ahead of it."""
    # Only the ends of the two ties have more or fewer ties behind it; an end of both has as many.
    changes = {place: 1 for place in put}
    for place in taken:
        changes[place] = changes.get(place, 0) - 1
    gained = 0
    for place, change in changes.items():
        if counts[place] == 1:
            gained -= 1
        if counts[place] + change == 1:
            gained += 1
    return gained


def rows_with(tree, counts, put):
    """All rows of the tree that put in a tie, rising, by the ties at each place."""
    leaves = counts.count(1)
    taken = ties_between(tree, put[0], put[1])
    return [(put, tie, leaves + leaves_gained(counts, put, tie)) for tie in taken]


def rows_of(web, tree):
    """All rows of the tree, rising."""
    counts = ties_at(tree)
    rows = []
    for put in ties_to_put(web, tree):
        rows.extend(rows_with(tree, counts, put))
    return tuple(rows)

"""Climbing: exchanges are done as long as one helps."""

from manyleaves.exchanges import exchanged, rows_of, rows_with, ties_at, ties_to_put
from manyleaves.parts import is_same
from manyleaves.trees import leaves_of


def first_help(rows, leaves):
    """The first of some rows that tells more leaves than these, None where none does."""
    for row in rows:
        # How many leaves there are is told last, in rows of one exchange and of two.
        if row[-1] > leaves:
            return row
    return None


def first_exchange(web, tree):
    """The first row of the tree that helps, None where none does."""
    counts = ties_at(tree)
    # Tie by tie: the rows behind the first that helps need not be told.
    for put in ties_to_put(web, tree):
        row = first_help(rows_with(tree, counts, put), counts.count(1))
        if row is not None:
            return row
    return None


def climbed(web, tree):
    """The rows that are done from a tree on, each the first that helps, and the tree in the end."""
    done = []
    row = first_exchange(web, tree)
    while row is not None:
        done.append(row)
        tree = exchanged(tree, row[0], row[1])
        row = first_exchange(web, tree)
    return (tuple(done), tree)


def right_stopped(web, tree, thing):
    """Whether a thing is just all rows of the tree, and none helps."""
    rows = rows_of(web, tree)
    return first_help(rows, len(leaves_of(tree))) is None and is_same(rows, thing)

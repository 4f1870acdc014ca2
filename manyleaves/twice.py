"""Two exchanges at once, and climbing by them where none alone helps."""

from manyleaves.climbing import first_exchange, first_help, right_stopped
from manyleaves.errors import TooGreat
from manyleaves.exchanges import exchanged, rows_of
from manyleaves.parts import is_same
from manyleaves.trees import leaves_of
from manyleaves.webs import is_pair

MOST_PLACES_TWICE = 10
MOST_TIES_TWICE = 16


def check_small(web):
    """Refuse with TooGreat a web that has too many places or ties for two exchanges at once."""
    places, ties = web
    if places > MOST_PLACES_TWICE or len(ties) > MOST_TIES_TWICE:
        raise TooGreat()


def twos_behind(web, tree, row):
    """All rows of two exchanges of which the first is told by a row, rising."""
    put, taken, leaves = row
    return [(put, taken, then, out, last) for then, out, last in rows_of(web, exchanged(tree, put, taken))]


def twos_of(web, tree):
    """All rows of two exchanges at once, rising."""
    check_small(web)
    rows = []
    for row in rows_of(web, tree):
        rows.extend(twos_behind(web, tree, row))
    return tuple(rows)


def first_two(web, tree):
    """The first row of two at once that helps, None where none does."""
    leaves = len(leaves_of(tree))
    for row in rows_of(web, tree):
        two = first_help(twos_behind(web, tree, row), leaves)
        if two is not None:
            return two
    return None


def next_row(web, tree):
    """The first exchange that helps, else the first two at once that do, None where none do."""
    row = first_exchange(web, tree)
    if row is not None:
        return row
    return first_two(web, tree)


def done(tree, row):
    """The tree that a row of one exchange or of two leaves."""
    left = exchanged(tree, row[0], row[1])
    if len(row) == 3:
        return left
    return exchanged(left, row[2], row[3])


def climbed_twice(web, tree):
    """The rows that are done from a tree on, of one exchange or of two at once, and the tree in the end."""
    check_small(web)
    rows = []
    row = next_row(web, tree)
    while row is not None:
        rows.append(row)
        tree = done(tree, row)
        row = next_row(web, tree)
    return (tuple(rows), tree)


def right_stopped_twice(web, tree, thing):
    """Whether a thing is all rows of the tree and all of two at once, and none helps."""
    check_small(web)
    if not is_pair(thing) or not right_stopped(web, tree, thing[0]):
        return False
    twos = twos_of(web, tree)
    return first_help(twos, len(leaves_of(tree))) is None and is_same(twos, thing[1])

"""Webs of a known kind: what they are, however numbered, and a tree with the most leaves, at once."""

from manyleaves.sets import tree_by
from manyleaves.webs import neighbour_rows, tie_of


def is_ring(web):
    """Whether each place of a web, which is in one piece, has just two ties."""
    return all([len(row) == 2 for row in neighbour_rows(web)])


def is_sides(web):
    """Whether the web has two sides, and each place is tied to all of the other side and to none of its own."""
    rows = neighbour_rows(web)
    far = rows[0]
    near = rows[far[0]]
    # No place is tied to itself: so none is in both sides where each has the whole other one for its neighbours.
    return all([row == (near if place in far else far) for place, row in enumerate(rows)])


def end_columns(rows):
    """The pairs of neighbours that have two ties each: of a ladder of three columns or more those at its ends."""
    corners = [place for place, row in enumerate(rows) if len(row) == 2]
    return [(a, b) for a in corners for b in rows[a] if b in corners]


def next_columns(rows, met, column):
    """The pairs of a place beside the one of a column and one beside the other, neither met yet: one in a ladder."""
    a, b = column
    return [(c, d) for c in rows[a] if c not in met for d in rows[b] if d not in met]


def columns_of(web):
    """The columns of a ladder from an end on; of any other web some pairs that are no columns of it."""
    rows = neighbour_rows(web)
    met = {}
    columns = []
    found = end_columns(rows)
    while found:
        column = found[0]
        columns.append(column)
        for place in column:
            met[place] = True
        found = next_columns(rows, met, column)
    return columns


def ladder_ties(columns):
    """The ties of a ladder of these columns, rising."""
    ties = [tie_of(a, b) for a, b in columns]
    for (a, b), (c, d) in zip(columns, columns[1:]):
        ties.extend([tie_of(a, c), tie_of(b, d)])
    return tuple(sorted(ties))


def busy_in_ladder(columns):
    """A busy set of a ladder of three columns or more, as small as any, rising."""
    # The middle one of three columns touches all; else one place of each column is needed, as many as a side has.
    if len(columns) == 3:
        return tuple(sorted(columns[1]))
    return tuple(sorted([a for a, b in columns]))


def at_once(web):
    """The kind of a web and a tree with the most leaves, None where it is of no known kind."""
    places, ties = web
    if len(ties) == places - 1:
        return ("tree", ties)
    if 2 * len(ties) == places * (places - 1):
        return ("full", tree_by(web, (0,)))
    if is_ring(web):
        # Without any one of its ties a ring is a way.
        return ("ring", ties[1:])
    if is_sides(web):
        return ("sides", tree_by(web, (0, neighbour_rows(web)[0][0])))
    columns = columns_of(web)
    if ladder_ties(columns) == ties:
        return ("ladder", tree_by(web, busy_in_ladder(columns)))
    return None

"""Trees of a web, their leaves and busy places, and the ways in them."""

from manyleaves.webs import in_one_piece, is_tie_row, neighbour_rows


def right_tree(web, thing):
    """Whether a thing is a tree of the web."""
    places, ties = web
    if not is_tie_row(thing, places) or len(thing) != places - 1:
        return False
    known = {tie: True for tie in ties}
    for tie in thing:
        if tie not in known:
            return False
    return in_one_piece((places, thing))


def tree_rows(tree):
    """For each place the list of those tied to it in the tree, rising."""
    # A tree joins one place more than it has ties.
    return neighbour_rows((len(tree) + 1, tree))


def leaves_of(tree):
    """The places that are in one tie of the tree, rising."""
    return tuple([place for place, row in enumerate(tree_rows(tree)) if len(row) == 1])


def busy_of(tree):
    """The places that are in more than one tie of the tree, rising."""
    return tuple([place for place, row in enumerate(tree_rows(tree)) if len(row) > 1])


def steps_to(tree, goal):
    """For each place the next one on its way in the tree to the goal, None for the goal."""
    rows = tree_rows(tree)
    steps = [None for row in rows]
    waiting = [goal]
    while waiting:
        place = waiting.pop()
        for other in rows[place]:
            # There is no ring in a tree, so only the step already taken leads back.
            if other != steps[place]:
                steps[other] = place
                waiting.append(other)
    return tuple(steps)


def way_in(tree, one, other):
    """The places on the way in the tree from the one to the other, both ends too."""
    steps = steps_to(tree, other)
    place = one
    way = [place]
    while place != other:
        place = steps[place]
        way.append(place)
    return tuple(way)

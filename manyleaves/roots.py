"""Trees told from a root, by the parents of their places."""

from manyleaves.ints import is_between
from manyleaves.trees import right_tree, steps_to
from manyleaves.webs import tie_of


def parents_of(tree, root):
    """For each place the next one on its way to the root, None for the root."""
    return steps_to(tree, root)


def are_parents(places, root, thing):
    """Whether a thing has None for the root and a place for each other place."""
    if not isinstance(thing, tuple) or len(thing) != places:
        return False
    for place, parent in enumerate(thing):
        if place == root:
            if parent is not None:
                return False
        elif not is_between(parent, 0, places - 1):
            return False
    return True


def right_parents(web, root, thing):
    """Whether a thing is the parents of a tree of the web from the root."""
    if not are_parents(web[0], root, thing):
        return False
    tree = tree_of(thing)
    return right_tree(web, tree) and parents_of(tree, root) == thing


def tree_of(parents):
    """The tree of some parents."""
    ties = []
    for place, parent in enumerate(parents):
        if parent is not None:
            ties.append(tie_of(place, parent))
    return tuple(sorted(ties))

"""A desk: a keeper that is asked by lines and tells texts."""

from manyleaves.atonce import at_once
from manyleaves.errors import Apart, NoSet, NoTie, Taken, TooGreat, TooMany
from manyleaves.growing import grown
from manyleaves.keeper import Keeper
from manyleaves.most import most_leaves
from manyleaves.musts import musts
from manyleaves.texts import numbers_below, numbers_in, places_in, places_text, tree_text, web_text
from manyleaves.trees import busy_of, leaves_of
from manyleaves.two import two_trees
from manyleaves.whys import why_not


def tell_web(keeper):
    """The web's text."""
    return web_text(keeper.now())


def tell_tree(keeper):
    """The kept tree's text."""
    return tree_text(keeper.kept())


def tell_leaves(keeper):
    """The leaves of the kept tree."""
    return places_text(leaves_of(keeper.kept()))


def tell_busy(keeper):
    """The busy places of the kept tree."""
    return places_text(busy_of(keeper.kept()))


def tell_musts(keeper):
    """The places that must be busy."""
    return places_text(musts(keeper.now()))


def tell_kind(keeper):
    """The web's kind."""
    told = at_once(keeper.now())
    if told is None:
        return "none"
    return told[0]


def tell_grown(keeper):
    """The busy places of the grown tree."""
    order, tree = grown(keeper.now())
    return places_text(sorted(order))


def tell_two(keeper):
    """Whether there are two trees apart, or none."""
    return two_trees(keeper.now())[0]


def tell_most(keeper, wishes):
    """How many leaves the best tree has that keeps the wishes."""
    tree, cases = most_leaves(keeper.now(), wishes)
    return str(len(leaves_of(tree)))


def tell_most_unwished(keeper):
    """How many leaves the best tree has."""
    return tell_most(keeper, ())


def tell_why(keeper, barred):
    """Whether a busy set keeps it that some places are barred, else why not."""
    why = why_not(keeper.now(), (), barred)
    if why is None:
        return "kept"
    return why[0]


def done_text(rows):
    """The text of a deed, by the rows that were done."""
    return f"done {len(rows)}"


def do_put(keeper, a, b):
    """Bring a tie to the web."""
    return done_text(keeper.put(a, b))


def do_drop(keeper, a, b):
    """Take a tie out of the web."""
    return done_text(keeper.drop(a, b))


BY_NOTHING = {
    "web": tell_web,
    "tree": tell_tree,
    "leaves": tell_leaves,
    "busy": tell_busy,
    "musts": tell_musts,
    "kind": tell_kind,
    "grown": tell_grown,
    "most": tell_most_unwished,
    "two": tell_two,
}
BY_PLACES = {"most": tell_most, "why": tell_why}
BY_TIE = {"put": do_put, "drop": do_drop}


def told_of_places(keeper, word, text):
    """What a word and a text of places tell, None where there is no place."""
    deed = BY_PLACES[word]
    places = places_in(text, keeper.now()[0])
    # None where it is no such text, and no places where it is the empty one.
    if not places:
        return None
    return deed(keeper, places)


def told_of_tie(keeper, word, ends):
    """What a word and two places tell, None where they are no unlike places."""
    deed = BY_TIE[word]
    a, b = numbers_in(ends, numbers_below(keeper.now()[0]))
    if a is None or b is None or a == b:
        return None
    return deed(keeper, a, b)


def told_of_words(keeper, words):
    """What the words of a line tell, None where it is no such line."""
    word, *rest = words
    if word in BY_NOTHING and len(rest) == 0:
        deed = BY_NOTHING[word]
        return deed(keeper)
    if word in BY_PLACES and len(rest) == 1:
        return told_of_places(keeper, word, rest[0])
    if word in BY_TIE and len(rest) == 2:
        return told_of_tie(keeper, word, rest)
    return None


def told_or_refused(keeper, words):
    """What the words of a line tell, a refusal by its name, None where it is no such line."""
    try:
        return told_of_words(keeper, words)
    except TooGreat:
        return "no TooGreat"
    except NoSet:
        return "no NoSet"
    except Taken:
        return "no Taken"
    except TooMany:
        return "no TooMany"
    except NoTie:
        return "no NoTie"
    except Apart:
        return "no Apart"


class Desk:
    """Has a keeper of a web and tells of it."""

    def __init__(self, web):
        self.keeper = Keeper(web)

    def say(self, line):
        """Do what a line says, and tell a text."""
        told = told_or_refused(self.keeper, line.split(" ")) if isinstance(line, str) else None
        if told is None:
            return "no NoWord"
        return told

"""A keeper: a web whose ties come and go, and a stopped tree of it."""

from manyleaves.climbing import climbed
from manyleaves.errors import Apart, NoTie, Taken, TooMany
from manyleaves.growing import climbed_from_grown
from manyleaves.webs import MOST_TIES, in_one_piece, pieces, tie_of


def with_tie(ties, tie):
    """Some ties and one more, rising."""
    return tuple(sorted(ties + (tie,)))


def without_tie(ties, tie):
    """Some ties without one of them, rising."""
    return tuple([other for other in ties if other != tie])


def joined(web, ties):
    """The tree of some ties that leave two pieces and of the least tie of the web that joins these."""
    one = pieces((web[0], ties), tuple(range(web[0])))[0]
    joining = [(a, b) for a, b in web[1] if (a in one) != (b in one)]
    return with_tie(ties, joining[0])


class Keeper:
    """Keeps a stopped tree of a web."""

    def __init__(self, web):
        self.web = web
        self.tree = climbed_from_grown(web)

    def now(self):
        """The web."""
        return self.web

    def kept(self):
        """The kept tree."""
        return self.tree

    def put(self, a, b):
        """Bring a tie to the web; tell the rows that were done."""
        tie = tie_of(a, b)
        places, ties = self.web
        if tie in ties:
            raise Taken()
        if len(ties) >= MOST_TIES:
            raise TooMany()
        return self.climb((places, with_tie(ties, tie)), self.tree)

    def drop(self, a, b):
        """Take a tie out of the web; tell the rows that were done."""
        tie = tie_of(a, b)
        places, ties = self.web
        if tie not in ties:
            raise NoTie()
        web = (places, without_tie(ties, tie))
        if not in_one_piece(web):
            raise Apart()
        if tie in self.tree:
            return self.climb(web, joined(web, without_tie(self.tree, tie)))
        # Fewer exchanges are left, and none of those helped.
        self.web = web
        return ()

    def climb(self, web, tree):
        """Keep a web and what is climbed to from a tree of it; tell the rows that were done."""
        rows, stopped = climbed(web, tree)
        self.web = web
        self.tree = stopped
        return rows

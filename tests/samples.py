"""Webs, odd things and plain judges that the tests share."""

import itertools
import unittest


def way(n):
    return (n, tuple((i, i + 1) for i in range(n - 1)))


def ring(n):
    return (n, tuple(sorted(way(n)[1] + ((0, n - 1),))))


def full(n):
    return (n, tuple(itertools.combinations(range(n), 2)))


def star(n, middle=0):
    return (n, tuple(sorted((min(middle, i), max(middle, i)) for i in range(n) if i != middle)))


def comb(k):
    return (2 * k, tuple(sorted(way(k)[1] + tuple((i, k + i) for i in range(k)))))


def ladder(k):
    ties = way(k)[1] + tuple((k + a, k + b) for a, b in way(k)[1]) + tuple((i, k + i) for i in range(k))
    return (2 * k, tuple(sorted(ties)))


def most_ties(ties):
    """A web of 60 places with so many ties, all in one piece."""
    more = [tie for tie in full(60)[1] if tie[1] - tie[0] > 1]
    return (60, tuple(sorted(list(way(60)[1]) + more[: ties - 59])))


def far_ties(ties):
    """A web of 60 places with so many ties: a way, and ties from far to far."""
    more = sorted(full(60)[1], key=lambda tie: (tie[0] - tie[1], tie))
    return (60, tuple(sorted(way(60)[1] + tuple(more[: ties - 59]))))


def lots(n, ties):
    """The pieces of places 0 to n - 1, by joining labels."""
    label = list(range(n))
    for a, b in ties:
        old, new = max(label[a], label[b]), min(label[a], label[b])
        label = [new if x == old else x for x in label]
    return tuple(tuple(i for i in range(n) if label[i] == x) for x in sorted(set(label)))


def all_webs(n):
    """All webs of n places."""
    ties = full(n)[1]
    for k in range(len(ties) + 1):
        for some in itertools.combinations(ties, k):
            if len(lots(n, some)) == 1:
                yield (n, some)


def all_trees(web):
    """All trees of a web."""
    for some in itertools.combinations(web[1], web[0] - 1):
        if len(lots(web[0], some)) == 1:
            yield some


def few_webs():
    """Webs of many forms, few enough to go through often."""
    yield from all_webs(3)
    yield from all_webs(4)
    yield from list(all_webs(5))[::9]
    for n in (3, 7, 60):
        yield from (way(n), ring(n), star(n), star(n, n // 2))
    yield from (full(6), full(20), comb(4), comb(30), ladder(3), ladder(30), most_ties(200))


def some_tree(web):
    """A tree of a web: each tie in order that joins two pieces."""
    ties = []
    for tie in web[1]:
        if len(lots(web[0], ties + [tie])) < len(lots(web[0], ties)):
            ties.append(tie)
    return tuple(ties)


def is_int(thing):
    return type(thing) is int


def is_pair_row(thing, n):
    """Whether a thing is a rising tuple of pairs (a, b) below n, a less than b."""
    if type(thing) is not tuple:
        return False
    if not all(type(tie) is tuple and len(tie) == 2 and all(map(is_int, tie)) for tie in thing):
        return False
    return all(0 <= a < b < n for a, b in thing) and list(thing) == sorted(set(thing))


def is_web(thing):
    """Whether a thing is a web, by the words of the document."""
    if type(thing) is not tuple or len(thing) != 2 or not is_int(thing[0]) or not 3 <= thing[0] <= 60:
        return False
    return is_pair_row(thing[1], thing[0]) and len(thing[1]) <= 200 and len(lots(*thing)) == 1


def is_tree(web, thing):
    """Whether a thing is a tree of a web, by the words of the document."""
    if not is_pair_row(thing, web[0]) or len(thing) != web[0] - 1:
        return False
    return set(thing) <= set(web[1]) and len(lots(web[0], thing)) == 1


def is_parents(web, root, thing):
    """Whether a thing is the parents of a tree of a web, by going up from each place."""
    n = web[0]
    if type(thing) is not tuple or len(thing) != n or thing[root] is not None:
        return False
    for place, parent in enumerate(thing):
        if place != root and (not is_int(parent) or (min(place, parent), max(place, parent)) not in web[1]):
            return False
    for place in range(n):
        for step in range(n):
            place = place if place == root else thing[place]
        if place != root:
            return False
    return True


def nested(kind, depth):
    """A thing nested so deep."""
    thing = 0
    for step in range(depth):
        if kind == "tuple":
            thing = (thing,)
        elif kind == "pair":
            thing = (thing, 1)
        elif kind == "list":
            thing = [thing]
        else:
            thing = {"a": thing}
    return thing


def odd_things():
    """Things of all sorts that may be handed in where the document says anything."""
    return [
        None, True, False, 0, 1, 2, 3, -1, 60, 61, 200, 10 ** 99, 10 ** 100 - 1, -(10 ** 99),
        "", "a", "0", "none\n", " ~", (), [], {}, (None,), (0,), (0, 1), (1, 0), [0, 1], {0: 1}, {0: 0, 1: 1},
        (3, ()), [3, []], (0, 1, 2), ((0, 1),), [(0, 1)], ([0, 1],), ({},), ((0, 1), (1, 2)), ((0, True),),
        ((False, 1),), ("01", "12"), (None, 0, 1), (None, None), (None, {}, []), {"places": 3}, (3, {(0, 1): (1, 2)}),
        nested("tuple", 70), nested("pair", 70), nested("list", 70), nested("dict", 70),
    ]


def great_things():
    """Things of as many things as may be handed in."""
    ties = tuple((0, 1) for k in range(33332))
    return [tuple(range(99999)), [None] * 99999, (3, ties), (60, tuple(sorted(full(259)[1])[:33332])), "x" * 99999]


def put_in(thing, at, new):
    return thing[:at] + (new,) + thing[at + 1:]


def spoilt(thing, depth=3):
    """A tuple with one thing in it, or in a tuple within, put in another's stead, left out, twice or turned about."""
    yield list(thing)
    yield dict(enumerate(thing))
    yield thing[::-1]
    yield (thing,)
    for at, item in enumerate(thing):
        yield thing[:at] + thing[at + 1:]
        yield thing[:at] + (item,) + thing[at:]
        if at:
            yield thing[:at - 1] + (item, thing[at - 1]) + thing[at + 1:]
        for new in odd_things():
            yield put_in(thing, at, new)
        if is_int(item):
            for new in (item + 1, item - 1, -item, item + 60, item == 1, str(item), [item], (item,)):
                yield put_in(thing, at, new)
        if type(item) is tuple and depth:
            for new in spoilt(item, depth - 1):
                yield put_in(thing, at, new)


class Asking(unittest.TestCase):
    """Tests that ask everything twice and see to it that what is handed in stays as it was."""

    def ask(self, deed, *things):
        # repr tells True from 1, which == does not.
        ahead = [repr(thing) for thing in things]
        first = deed(*things)
        self.assertEqual([repr(thing) for thing in things], ahead)
        self.assertEqual(repr(deed(*things)), repr(first))
        self.assertTrue(is_told(first), first)
        return first

    def told(self, answer, deed, *things):
        """See to it that a deed answers just so."""
        self.assertEqual(repr(self.ask(deed, *things)), repr(answer))

    def refused(self, error, deed, *things):
        """See to it that a deed is refused, once and again, with just this error, and changes nothing."""
        ahead = [repr(thing) for thing in things]
        for time in range(2):
            with self.assertRaises(error) as caught:
                deed(*things)
            self.assertIs(type(caught.exception), error)
        self.assertEqual([repr(thing) for thing in things], ahead)


def is_told(thing):
    """Whether a thing is made of tuples, ints, None, texts, True and False."""
    if type(thing) is tuple:
        return all(is_told(item) for item in thing)
    return thing is None or type(thing) in (int, str, bool)

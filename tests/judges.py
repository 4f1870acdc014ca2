"""Small webs gone through whole, and plain judges of busy sets and of the papers about them.

The judges go by the words of the document, in another way than the program does.
"""

import functools
import itertools
import math
from fractions import Fraction

from samples import all_trees, all_webs, comb, full, is_int, is_tree, ladder, lots, most_ties, ring, star, way


def mixed(n, k):
    """A web of no plain form: each place tied to one ahead of it, and some ties more."""
    ties = {((b * k + 1) % b, b) for b in range(1, n)}
    ties |= {(a, b) for a, b in full(n)[1] if (a * 5 + b * b + k) % (7 if n < 20 else 13) == 0}
    return (n, tuple(sorted(ties)))


def tiny_webs():
    """Webs of three to five places, for what is gone through wholly."""
    return list(all_webs(3)) + list(all_webs(4)) + list(all_webs(5))[::61]


def small_webs():
    """Webs of three to nine places."""
    webs = [way(3), full(3), ring(4), star(5, 2), full(5), ladder(3), comb(3), way(7), ring(7), ladder(4), comb(4)]
    return webs + [mixed(n, k) for n, k in ((5, 1), (6, 2), (7, 3), (8, 4), (9, 5), (9, 11))]


def webs_of(n):
    """Webs of so many places, an even number, thin ones and thick ones."""
    webs = [way(n), ring(n), star(n, n // 2), comb(n // 2), ladder(n // 2), full(n)]
    return webs + [mixed(n, k) for k in (1, 4, 6)]


def great_webs():
    """Webs of sixty places."""
    return [way(60), ring(60), star(60, 30), comb(30), ladder(30), mixed(60, 7), most_ties(200)]


def choices(places):
    """All rising tuples of some places."""
    for k in range(len(places) + 1):
        yield from itertools.combinations(places, k)


def all_states(n):
    """All states of n places."""
    for marks in itertools.product((0, 1, 2), repeat=n):
        yield tuple(p for p in range(n) if marks[p] == 1), tuple(p for p in range(n) if marks[p] == 2)


def some_states(n, step):
    """Some of all states, those with nothing held and nothing barred among them."""
    everything = tuple(range(n))
    yield from (((), ()), (everything, ()), ((), everything), ((0,), everything[1:]), (everything[1:], (0,)))
    yield from itertools.islice(all_states(n), 0, None, step)


def some_wishes(n):
    """Some wishes of n places, from none to all."""
    return [(), (0,), (n - 1,), (0, n - 1), (1, 2), tuple(range(0, n, 2)), tuple(range(1, n)), tuple(range(n))]


def price_rows(n):
    """Some prices of n places."""
    mixed_up = tuple(1 + p * p % 5 for p in range(n)), tuple(1 + (n - p) * 7 % 11 for p in range(n))
    return [(1,) * n, (1000,) * n, *mixed_up]


def lot(web, place):
    return {place} | {a for a, b in web[1] if b == place} | {b for a, b in web[1] if a == place}


def is_places(n, thing):
    """Whether a thing is a rising tuple of places."""
    if type(thing) is not tuple or not all(is_int(item) and 0 <= item < n for item in thing):
        return False
    return list(thing) == sorted(set(thing))


def is_busy_set(web, thing):
    if not is_places(web[0], thing) or not thing:
        return False
    between = [(thing.index(a), thing.index(b)) for a, b in web[1] if a in thing and b in thing]
    if len(lots(len(thing), between)) != 1:
        return False
    return all(lot(web, place) & set(thing) for place in range(web[0]))


@functools.lru_cache(maxsize=None)
def busy_sets(web):
    """All busy sets of a web."""
    return tuple(some for some in choices(range(web[0])) if is_busy_set(web, some))


def keeping(sets, held, barred):
    """Those of some sets that keep a state."""
    return [some for some in sets if set(held) <= set(some) and not set(barred) & set(some)]


def price(prices, places):
    return sum(prices[place] for place in places)


def least_kept(web, prices, held, barred):
    """The least price of a busy set that keeps a state, None where there is none."""
    return min([price(prices, some) for some in keeping(busy_sets(web), held, barred)], default=None)


def is_why(web, held, barred, thing):
    if type(thing) is not tuple or not thing or type(thing[0]) is not str:
        return False
    if thing[0] == "bare" and len(thing) == 2:
        return is_places(web[0], thing[1:]) and lot(web, thing[1]) <= set(barred)
    if thing[0] != "apart" or len(thing) != 4 or not is_places(web[0], thing[1]):
        return False
    if not is_places(web[0], thing[2:3]) or not is_places(web[0], thing[3:]):
        return False
    side, p, q = thing[1:]
    for a, b in web[1]:
        if (a in side) != (b in side) and (a if b in side else b) not in barred:
            return False
    on_side = p in side if p in held else all(x in side or x in barred for x in lot(web, p))
    off_side = q not in side if q in held else all(x not in side or x in barred for x in lot(web, q))
    return on_side and off_side and not set(side) & set(barred)


def is_share_row(n, thing):
    if type(thing) is not tuple or len(thing) != 3 or not all(map(is_int, thing)):
        return False
    return 0 <= thing[0] < n and thing[1] > 0 and thing[2] > 0 and math.gcd(thing[1], thing[2]) == 1


def is_shares(web, prices, held, barred, thing):
    n = web[0]
    if type(thing) is not tuple or not all(is_share_row(n, row) for row in thing):
        return False
    if not is_places(n, tuple(row[0] for row in thing)):
        return False
    if any(lot(web, row[0]) & set(held) for row in thing):
        return False
    asked = [Fraction(0) for place in range(n)]
    for p, top, bottom in thing:
        for place in lot(web, p):
            asked[place] += Fraction(top, bottom)
    return all(asked[p] <= prices[p] for p in range(n) if p not in held and p not in barred)


def raised_by_ones(web, prices, held, barred, order):
    """The shares that are raised, each by ones as long as they are right."""
    rows = ()
    for p in order:
        if lot(web, p) <= set(barred):
            continue
        share = 0
        while is_shares(web, prices, held, barred, tuple(sorted(rows + ((p, share + 1, 1),)))):
            share += 1
        if share:
            rows += ((p, share, 1),)
    return tuple(sorted(rows))


def is_thin(web, held, barred, limit):
    """Whether no choice of so many free places beside the held ones reaches all places."""
    gains = [len(lot(web, place)) - 2 for place in range(web[0])]
    free = [place for place in range(web[0]) if place not in held and place not in barred]
    many = min(len(free), max(0, limit - len(held)))
    best = max(sum(gains[place] for place in some) for some in itertools.combinations(free, many))
    return 2 + sum(gains[place] for place in held) + best < web[0]


def worth(prices, held, shares):
    return price(prices, held) + sum(Fraction(top, bottom) for p, top, bottom in shares)


def is_cases(web, prices, held, barred, limit, thing):
    if type(thing) is not tuple or not thing or type(thing[0]) is not str:
        return False
    if thing == ("over",):
        return price(prices, held) > limit
    if thing == ("thin",):
        return set(prices) == {1} and is_thin(web, held, barred, limit)
    if thing[0] == "shares" and len(thing) == 2:
        return is_shares(web, prices, held, barred, thing[1]) and worth(prices, held, thing[1]) > limit
    if thing[0] == "part" and len(thing) == 4:
        if not is_places(web[0], thing[1:2]) or thing[1] in held or thing[1] in barred:
            return False
        more_held, more_barred = tuple(sorted({*held, thing[1]})), tuple(sorted({*barred, thing[1]}))
        return (is_cases(web, prices, more_held, barred, limit, thing[2])
                and is_cases(web, prices, held, more_barred, limit, thing[3]))
    return is_why(web, held, barred, thing)


def whys_of(n):
    """All things of n places that have the form of a why."""
    for p in range(n):
        yield ("bare", p)
        for side in choices(range(n)):
            for q in range(n):
                yield ("apart", side, p, q)


def is_lean(web, busy):
    """Whether a busy set is none without any one of its places."""
    return not any(is_busy_set(web, tuple(p for p in busy if p != place)) for place in busy)


def is_need(web, busy, place, thing):
    if type(thing) is not tuple or len(thing) != 2 or type(thing[0]) is not str:
        return False
    if thing[0] == "own":
        return is_places(web[0], thing[1:]) and lot(web, thing[1]) & set(busy) == {place}
    if thing[0] != "parts" or not is_places(web[0], thing[1]):
        return False
    side = set(thing[1])
    rest = set(busy) - {place} - side
    if not side or not rest or not side <= set(busy) - {place}:
        return False
    return not any((a in side and b in rest) or (b in side and a in rest) for a, b in web[1])


def is_needs(web, busy, thing):
    if type(thing) is not tuple or len(thing) != len(busy):
        return False
    return all(is_need(web, busy, place, need) for place, need in zip(busy, thing))


def is_sure(web, thing):
    if type(thing) is not tuple or len(thing) != 2 or not is_places(web[0], thing[:1]):
        return False
    return is_why(web, (), thing[:1], thing[1])


def is_bound(web, prices, thing):
    if type(thing) is not tuple or len(thing) != 2 or type(thing[0]) is not tuple:
        return False
    if not all(is_sure(web, row) for row in thing[0]):
        return False
    sure = tuple(row[0] for row in thing[0])
    return is_places(web[0], sure) and is_shares(web, prices, sure, (), thing[1])


def ends_of(n, tree):
    """The leaves of a tree of n places."""
    return tuple(p for p in range(n) if sum(p in tie for tie in tree) == 1)


def busy_in(n, tree):
    """The busy places of a tree of n places."""
    return tuple(p for p in range(n) if sum(p in tie for tie in tree) > 1)


def put_for(tree, put, taken):
    """A tree with one tie in another's stead."""
    return tuple(sorted((set(tree) - {taken}) | {put}))


def rows(web, tree):
    """All rows of a tree: without each tie it is in two lots, and each tie of the web between these may be put."""
    n = web[0]
    found = []
    for taken in tree:
        one = lots(n, [tie for tie in tree if tie != taken])[0]
        for put in web[1]:
            if put not in tree and (put[0] in one) != (put[1] in one):
                ends = [end for tie in put_for(tree, put, taken) for end in tie]
                found.append((put, taken, sum(ends.count(p) == 1 for p in range(n))))
    return tuple(sorted(found))


def twos(web, tree):
    """All rows of two at once."""
    found = []
    for put, taken, leaves in rows(web, tree):
        for row in rows(web, put_for(tree, put, taken)):
            found.append((put, taken) + row)
    return tuple(sorted(found))


def climb(web, tree, twice=False):
    """What is done from a tree on, always the first row that helps, two at once where none alone does."""
    done = []
    while True:
        many = len(ends_of(web[0], tree))
        help_it = [row for row in rows(web, tree) if row[-1] > many]
        if twice and not help_it:
            help_it = [row for row in twos(web, tree) if row[-1] > many]
        if not help_it:
            return (tuple(done), tree)
        done.append(help_it[0])
        for at in range(0, len(help_it[0]) - 1, 2):
            tree = put_for(tree, help_it[0][at], help_it[0][at + 1])


@functools.lru_cache(maxsize=None)
def trees_of(web):
    """All trees of a web."""
    return tuple(all_trees(web))


def some_trees(web, many):
    """Some trees of a small web, from all over."""
    trees = trees_of(web)
    return trees[:: 1 + len(trees) // many]


# A web with a tree of three leaves that no exchange helps, though another one has four: that of star(5).
STUCK = (5, ((0, 1), (0, 2), (0, 3), (0, 4), (1, 2), (1, 3)))
STUCK_TREE = ((0, 1), (0, 4), (1, 2), (1, 3))

# A web whose grown tree has three leaves, and an exchange helps it.
HELPED = (7, ((0, 1), (0, 3), (1, 2), (1, 4), (3, 5), (4, 5), (5, 6)))


def is_best(web, prices, wishes, thing):
    """Whether a thing is a pair of a tree that keeps the wishes and cases for a limit of its price less 1."""
    if type(thing) is not tuple or len(thing) != 2 or not is_tree(web, thing[0]):
        return False
    busy = busy_in(web[0], thing[0])
    if set(busy) & set(wishes):
        return False
    return is_cases(web, prices, (), wishes, price(prices, busy) - 1, thing[1])


def no_pairs(tree, cases):
    """What is near a pair of a tree of a ring, a way from 0 on, and cases, and is none."""
    rest = tree[1:]
    return [
        (cases, tree), (tree,), (tree, cases, cases), [tree, cases], (list(tree), cases), (tree, list(cases)),
        (rest, cases), (tree[::-1], cases), (tree + ((0, len(tree)),), cases), (tree, ()), (tree, None), (tree, "thin"),
        ((), cases), (None, cases), (tree, (cases,)), ((tree,), cases), {tree: cases}, (tree, ("over",)),
        (((1, 0),) + rest, cases), (((0, True),) + rest, cases), (((False, 1),) + rest, cases),
        (((0, 2),) + rest, cases), (tree, cases + (0,)),
    ]


def grow(web):
    """The order in which places become busy, and the tree, by the words of the document."""
    n = web[0]
    near = {p: lot(web, p) - {p} for p in range(n)}
    order, tree = [], set()
    while True:
        touched = set().union(*(near[p] for p in order)) - set(order)
        untouched = set(range(n)) - set(order) - touched
        if not untouched:
            return (tuple(order), tuple(sorted(tree)))
        ranked = [(-len(near[p] & untouched), p) for p in (touched if order else range(n))]
        place = min(ranked)[1]
        tree |= {(min(place, p), max(place, p)) for p in near[place] & untouched}
        order.append(place)


def renamed(web, names):
    """A web with place i called names[i]."""
    return (web[0], tuple(sorted(tuple(sorted((names[a], names[b]))) for a, b in web[1])))


def some_names(n):
    """Some ways of renaming n places: as they are, turned about, stepped through, and mixed up."""
    yield tuple(range(n))
    yield tuple(range(n))[::-1]
    yield tuple(range(1, n)) + (0,)
    for step in (3, 7, 11, 17):
        if math.gcd(step, n) == 1:
            yield tuple((step * p + 1) % n for p in range(n))
    yield tuple(sorted(range(n), key=lambda p: (p * p * 5 + p) % 23))
    yield tuple(sorted(range(n), key=lambda p: (p * 31 + 7) % 61))


def sides(a, b):
    return (a + b, tuple((x, a + y) for x in range(a) for y in range(b)))


def is_ladder(web):
    """Whether a web is a ladder, by taking off end columns until two are left."""
    near = {p: lot(web, p) - {p} for p in range(web[0])}
    if web[0] < 4 or web[0] > 4 and sorted(map(len, near.values())) != [2] * 4 + [3] * (web[0] - 4):
        return False
    while len(near) > 4:
        ends = [(a, b) for a in near for b in near[a] if len(near[a]) == len(near[b]) == 2]
        if not ends:
            return False
        a, b = ends[0]
        (c,), (d,) = near[a] - {b}, near[b] - {a}
        del near[a], near[b]
        near[c].discard(a)
        near[d].discard(b)
        if c == d or d not in near[c] or len(near[c]) != 2 or len(near[d]) != 2:
            return False
    return sorted(map(len, near.values())) == [2] * 4


def kind_of(web):
    """The first kind that a web is of, None where it is of none."""
    n, ties = web
    near = [lot(web, p) - {p} for p in range(n)]
    if all(len(lots(n, [other for other in ties if other != tie])) > 1 for tie in ties):
        return "tree"
    if all(len(some) == n - 1 for some in near):
        return "full"
    if all(len(some) == 2 for some in near):
        return "ring"
    one = set(range(n)) - near[0]
    if set(ties) == {(min(a, b), max(a, b)) for a in one for b in near[0]}:
        return "sides"
    return "ladder" if is_ladder(web) else None


def are_apart(web, one, other):
    return not set(busy_in(web[0], one)) & set(busy_in(web[0], other))


def is_two(web, thing):
    if type(thing) is not tuple or len(thing) != 2 or not all(is_tree(web, tree) for tree in thing):
        return False
    return are_apart(web, *thing)


def is_coloured(web, zero, one, thing):
    """Whether a thing is cases of a colouring, by the words of the document."""
    if type(thing) is not tuple or not thing or type(thing[0]) is not str:
        return False
    if thing[0] == "part" and len(thing) == 4:
        if not is_places(web[0], thing[1:2]) or thing[1] in zero or thing[1] in one:
            return False
        return (is_coloured(web, tuple(sorted(zero + thing[1:2])), one, thing[2])
                and is_coloured(web, zero, tuple(sorted(one + thing[1:2])), thing[3]))
    if len(thing) < 3 or not is_int(thing[1]) or thing[1] not in (0, 1):
        return False
    own, others = (one, zero) if thing[1] else (zero, one)
    if thing[0] == "bare" and len(thing) == 3:
        return is_places(web[0], thing[2:]) and all(p in others for p in lot(web, thing[2]))
    if thing[0] == "apart" and len(thing) == 5:
        return is_why(web, own, others, ("apart",) + thing[2:])
    return False


def is_none(web, thing):
    return is_coloured(web, (0,), (), thing)


def colourings(n):
    """All colourings of n places in which 0 has colour 0 and each place a colour."""
    for some in choices(range(1, n)):
        yield tuple(p for p in range(n) if p not in some), some


@functools.lru_cache(maxsize=None)
def two_sets(web):
    """Two busy sets without a common place that are all places together, None where there are none."""
    for zero, one in colourings(web[0]):
        if is_busy_set(web, zero) and is_busy_set(web, one):
            return (zero, one)
    return None


def plain_none(web, zero=(0,), one=()):
    """Cases of a colouring by parting the first place without a colour always, None where there are none."""
    n = web[0]
    for colour, own, others in ((0, zero, one), (1, one, zero)):
        for p in range(n):
            if lot(web, p) <= set(others):
                return ("bare", colour, p)
        kept = lots(n, [tie for tie in web[1] if not set(tie) & set(others)])
        kept = [some for some in kept if not set(some) & set(others)]
        if len(kept) > 1:
            return ("apart", colour, kept[0], kept[0][0], kept[1][0])
    free = [p for p in range(n) if p not in zero and p not in one]
    if not free:
        return None
    first = plain_none(web, tuple(sorted(zero + (free[0],))), one)
    second = plain_none(web, zero, tuple(sorted(one + (free[0],))))
    return None if first is None or second is None else ("part", free[0], first, second)


class PlainKeeper:
    """A keeper by the words of the document; what is refused is told by its name."""

    def __init__(self, web):
        self.web = web
        self.tree = climb(web, grow(web)[1])[1]

    def climb(self, tree):
        done, self.tree = climb(self.web, tree)
        return done

    def put(self, a, b):
        tie = tuple(sorted((a, b)))
        if tie in self.web[1]:
            return "Taken"
        if len(self.web[1]) == 200:
            return "TooMany"
        self.web = (self.web[0], tuple(sorted({*self.web[1], tie})))
        return self.climb(self.tree)

    def drop(self, a, b):
        tie = tuple(sorted((a, b)))
        if tie not in self.web[1]:
            return "NoTie"
        left = tuple(sorted({*self.web[1]} - {tie}))
        if len(lots(self.web[0], left)) > 1:
            return "Apart"
        self.web = (self.web[0], left)
        if tie not in self.tree:
            return ()
        rest = {*self.tree} - {tie}
        new = min(some for some in left if len(lots(self.web[0], rest | {some})) == 1)
        return self.climb(tuple(sorted(rest | {new})))

"""Webs of a kind, made by two numbers."""


def way_from(first, many):
    """The ties of a way of so many places, from a first one on."""
    return [(place, place + 1) for place in range(first, first + many - 1)]


def made_way(n, zero):
    """The places of a way and its ties."""
    return (n, way_from(0, n))


def made_ring(n, zero):
    """The places of a ring and its ties."""
    return (n, way_from(0, n) + [(0, n - 1)])


def made_full(n, zero):
    """The places of a web and the ties of each two."""
    return (n, [(a, b) for b in range(n) for a in range(b)])


def made_sides(many, others):
    """The places of two sides and the ties of each of the one to each of the other."""
    return (many + others, [(a, many + b) for a in range(many) for b in range(others)])


def made_comb(k, zero):
    """The places of a comb and its ties."""
    return (k + k, way_from(0, k) + [(place, k + place) for place in range(k)])


def made_ladder(k, zero):
    """The places of a ladder and its ties."""
    # A comb whose teeth are a way, too.
    places, ties = made_comb(k, zero)
    return (places, ties + way_from(k, k))


MAKERS = {
    "way": made_way,
    "ring": made_ring,
    "full": made_full,
    "sides": made_sides,
    "comb": made_comb,
    "ladder": made_ladder,
}


def made(kind, one, other):
    """The web of a kind by two numbers."""
    maker = MAKERS[kind]
    places, ties = maker(one, other)
    return (places, tuple(sorted(ties)))

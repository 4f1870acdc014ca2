"""What the program needs of whole numbers."""


def is_int(thing):
    """Whether a thing is a whole number."""
    # Python counts True and False among its ints; the document does not.
    return isinstance(thing, int) and not isinstance(thing, bool)


def is_between(thing, least, most):
    """Whether a thing is a whole number from least to most."""
    return is_int(thing) and least <= thing and thing <= most

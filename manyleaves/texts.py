"""Texts of webs, places and trees, and how they are read."""

from manyleaves.errors import NoText
from manyleaves.webs import MOST_PLACES, is_rising, is_tie_row, is_web


def web_text(web):
    """The text of a web."""
    places, ties = web
    return f"places {places}\n" + "".join([f"tie {a} {b}\n" for a, b in ties])


def places_text(places):
    """The text of places."""
    return ",".join([str(place) for place in places])


def tree_text(tree):
    """The text of a tree."""
    return " ".join([f"{a}-{b}" for a, b in tree])


def numbers_below(many):
    """The numbers below one by their texts."""
    # What is looked up here has no nought and no sign ahead, and is never too long to be reckoned.
    return {str(number): number for number in range(many)}


def numbers_in(words, numbers):
    """The numbers that some words tell, by their texts, None for each word that tells none."""
    return tuple([numbers.get(word) for word in words])


def items_in(text, mark):
    """What stands in a text with a mark between, nothing in the empty text."""
    if text == "":
        return []
    return text.split(mark)


def places_in(text, many):
    """The rising places below a number that a text tells, None where it tells none."""
    places = numbers_in(items_in(text, ","), numbers_below(many))
    if None in places or not is_rising(places):
        return None
    return places


def read_places(thing):
    """The rising places from 0 to 59 whose text a thing is; else it is refused with NoText."""
    places = places_in(thing, MOST_PLACES) if isinstance(thing, str) else None
    if places is None:
        raise NoText()
    return places


def read_tree(thing):
    """The rising ties of places from 0 to 59 whose text a thing is; else it is refused with NoText."""
    if not isinstance(thing, str):
        raise NoText()
    numbers = numbers_below(MOST_PLACES)
    ties = tuple([numbers_in(item.split("-"), numbers) for item in items_in(thing, " ")])
    if not is_tie_row(ties, MOST_PLACES):
        raise NoText()
    return ties


def numbers_behind(word, line, numbers):
    """The numbers that a line has behind a word, None for what tells none, and None alone for another word."""
    first, *rest = line.split(" ")
    if first != word:
        return (None,)
    return numbers_in(rest, numbers)


def read_web(thing):
    """The web whose text a thing is; else it is refused with NoText."""
    if not isinstance(thing, str) or not thing.endswith("\n"):
        raise NoText()
    numbers = numbers_below(MOST_PLACES + 1)
    head, *lines, last = thing.split("\n")
    ties = tuple([numbers_behind("tie", line, numbers) for line in lines])
    # This is a pair only where the first line has just one number.
    web = numbers_behind("places", head, numbers) + (ties,)
    if not is_web(web):
        raise NoText()
    return web

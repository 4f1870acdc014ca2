"""Texts of webs, places and trees (point 30)."""

import re
import unittest

from manyleaves.errors import NoText
from manyleaves.texts import places_text, read_places, read_tree, read_web, tree_text, web_text

import judges
import samples
from samples import Asking, all_webs, comb, far_ties, full, ladder, most_ties, ring, star, way

NUMBER = "(0|[1-9][0-9]*)"


def plain_places(text):
    """The places of a text by a pattern, None where it is no text of places."""
    if text and not re.fullmatch(f"{NUMBER}(,{NUMBER})*", text):
        return None
    found = [int(word) for word in text.split(",") if len(word) in (1, 2)]
    right = len(found) == (text.count(",") + 1 if text else 0) and all(place < 60 for place in found)
    return tuple(found) if right and found == sorted(set(found)) else None


def plain_tree(text):
    """The ties of a text by a pattern, None where it is no text of a tree."""
    if text and not re.fullmatch(f"{NUMBER}-{NUMBER}( {NUMBER}-{NUMBER})*", text):
        return None
    if re.search("[0-9]{3}", text):
        return None
    found = tuple(tuple(map(int, word.split("-"))) for word in text.split())
    return found if samples.is_pair_row(found, 60) else None


def plain_web(text):
    """The web of a text by a pattern, None where it is no text of a web."""
    if not re.fullmatch(f"places {NUMBER}\n(tie {NUMBER} {NUMBER}\n)*", text) or re.search("[0-9]{3}", text):
        return None
    first, *rows = text.split("\n")[:-1]
    web = (int(first[7:]), tuple(tuple(map(int, row[4:].split(" "))) for row in rows))
    return web if samples.is_web(web) else None


def near_texts(text):
    """Texts with one sign left out, put in, twice, or exchanged with the next."""
    for at in range(len(text) + 1):
        yield text[:at] + text[at + 1:]
        yield text[:at] + text[at:at + 1] + text[at:]
        yield text[:at] + text[at + 1:at + 2] + text[at:at + 1] + text[at + 2:]
        for sign in "0159 -+,.\n_pte~":
            yield text[:at] + sign + text[at:]
            yield text[:at] + sign + text[at + 1:]


class Texts(Asking):

    def test_web(self):
        self.told("places 3\ntie 0 1\ntie 1 2\n", web_text, way(3))
        self.told("places 4\ntie 0 1\ntie 0 3\ntie 1 2\ntie 2 3\n", web_text, ring(4))
        self.told("places 60\n" + "".join(f"tie 7 {p}\n" if p > 7 else f"tie {p} 7\n" for p in range(60) if p != 7),
                  web_text, star(60, 7))

    def test_places(self):
        self.told("", places_text, ())
        self.told("0", places_text, (0,))
        self.told("59", places_text, (59,))
        self.told("0,10,59", places_text, (0, 10, 59))
        self.told(",".join(str(p) for p in range(60)), places_text, tuple(range(60)))

    def test_tree(self):
        self.told("0-1 1-2", tree_text, way(3)[1])
        self.told("0-59", tree_text, ((0, 59),))
        self.told("", tree_text, ())
        self.told("0-1 0-2 1-2 10-59", tree_text, ((0, 1), (0, 2), (1, 2), (10, 59)))

    def test_no_sign_37(self):
        for web in judges.great_webs():
            for text in (web_text(web), tree_text(web[1]), places_text(tuple(range(60)))):
                self.assertNotIn(chr(37), text)

    def test_somewhat_beyond_the_bounds(self):
        self.told("places 65\n" + "".join(f"tie {p} {p + 1}\n" for p in range(64)), web_text, way(65))
        self.told("0,60,64", places_text, (0, 60, 64))
        self.told("0-64", tree_text, ((0, 64),))


class ReadWeb(Asking):

    def judged(self, text):
        right = plain_web(text)
        if right is None:
            self.refused(NoText, read_web, text)
        else:
            self.told(right, read_web, text)
        return right is not None

    def test_there_and_back(self):
        webs = list(all_webs(3)) + list(all_webs(4)) + judges.small_webs() + judges.webs_of(12) + judges.great_webs()
        for web in webs + [full(20), far_ties(200)]:
            self.told(web, read_web, web_text(web))

    def test_two_hundred_ties_and_one_more(self):
        self.assertEqual(self.ask(read_web, web_text(most_ties(200))), most_ties(200))
        self.refused(NoText, read_web, web_text(most_ties(201)))
        self.refused(NoText, read_web, web_text(full(21)))

    def test_how_many_places(self):
        for n in (3, 59, 60):
            self.told(way(n), read_web, web_text(way(n)))
        for n in (2, 61, 65, 99, 100):
            self.refused(NoText, read_web, web_text(way(n)))
        self.refused(NoText, read_web, "places 0\n")
        self.refused(NoText, read_web, "places 1\n")
        self.refused(NoText, read_web, "places 3\n")

    def test_not_in_one_piece(self):
        for text in ("places 3\ntie 0 1\n", "places 4\ntie 0 1\ntie 2 3\n", "places 4\ntie 0 1\ntie 0 2\ntie 1 2\n"):
            self.refused(NoText, read_web, text)

    def test_no_rising_ties(self):
        for text in ("places 3\ntie 1 2\ntie 0 1\n", "places 3\ntie 0 1\ntie 0 1\ntie 1 2\n",
                     "places 3\ntie 1 0\ntie 1 2\n", "places 3\ntie 0 1\ntie 1 1\ntie 1 2\n",
                     "places 3\ntie 0 1\ntie 1 3\n", "places 3\ntie 0 1\ntie 1 2\ntie 1 2\n"):
            self.refused(NoText, read_web, text)

    def test_lines(self):
        for text in ("", "\n", "places 3", "places 3\ntie 0 1\ntie 1 2", "places 3\ntie 0 1\ntie 1 2\n\n",
                     "\nplaces 3\ntie 0 1\ntie 1 2\n", "places 3\n\ntie 0 1\ntie 1 2\n", "tie 0 1\ntie 1 2\n",
                     "tie 0 1\nplaces 3\ntie 1 2\n", "places 3\nplaces 3\ntie 0 1\ntie 1 2\n",
                     "places 3 tie 0 1 tie 1 2\n", "places 3\ntie 0 1 tie 1 2\n", "places\ntie 0 1\ntie 1 2\n",
                     "places 3 3\ntie 0 1\ntie 1 2\n", "places 3\ntie 0 1 2\ntie 1 2\n", "places 3\ntie 0\ntie 1 2\n",
                     "places 3\ntie 0 1\ntie 1 2\n ", "3\n0 1\n1 2\n", "Places 3\ntie 0 1\ntie 1 2\n",
                     "places 3\nTie 0 1\ntie 1 2\n", "places 3\nties 0 1\ntie 1 2\n", "place 3\ntie 0 1\ntie 1 2\n",
                     "places 3\ntie 0,1\ntie 1 2\n", "places 3\ntie 0-1\ntie 1 2\n",
                     "places 3\ntie\ntie 0 1\ntie 1 2\n"):
            self.refused(NoText, read_web, text)

    def test_blanks(self):
        for text in ("places  3\ntie 0 1\ntie 1 2\n", " places 3\ntie 0 1\ntie 1 2\n", "places 3 \ntie 0 1\ntie 1 2\n",
                     "places 3\ntie  0 1\ntie 1 2\n", "places 3\ntie 0  1\ntie 1 2\n", "places 3\ntie 0 1 \ntie 1 2\n",
                     "places 3\n tie 0 1\ntie 1 2\n", "places3\ntie 0 1\ntie 1 2\n", "places 3\ntie 01\ntie 1 2\n",
                     "places 3\ntie0 1\ntie 1 2\n", "places\t3\ntie 0 1\ntie 1 2\n"):
            self.refused(NoText, read_web, text)

    def test_numbers(self):
        for number in ("03", "003", "+3", "-3", "3.0", "3.", "3e0", "0x3", "3_", "1_0", "three", "", "3" * 5000,
                       "0" * 5000 + "3", "-0", "3L", "III"):
            self.refused(NoText, read_web, f"places {number}\ntie 0 1\ntie 1 2\n")
        for number in ("01", "00", "+1", "-1", "1.0", "one", "", "1" * 5000, "0" * 4999 + "1", "1_", "0b1", "3", "60"):
            self.refused(NoText, read_web, f"places 3\ntie 0 {number}\ntie 1 2\n")
            self.refused(NoText, read_web, f"places 3\ntie 0 1\ntie {number} 2\n")

    def test_texts_near_a_web(self):
        right = 0
        for text in ("places 3\ntie 0 1\ntie 1 2\n", "places 12\n" + web_text(way(12))[10:], web_text(full(4))):
            for near in near_texts(text):
                right += self.judged(near)
        self.assertGreater(right, 10)

    def test_anything(self):
        for thing in samples.odd_things() + samples.great_things() + [way(3), [web_text(way(3))], (web_text(way(3)),),
                                                                      {"places 3\n": 0}, list(web_text(way(3)))]:
            self.refused(NoText, read_web, thing)
        self.refused(NoText, read_web, "tie 0 1\n" * 99999)
        self.refused(NoText, read_web, "places 3\n" + "tie 0 1\n" * 99999)


class ReadPlaces(Asking):

    def judged(self, text):
        right = plain_places(text)
        if right is None:
            self.refused(NoText, read_places, text)
        else:
            self.told(right, read_places, text)
        return right is not None

    def test_there_and_back(self):
        for places in list(judges.choices(range(6))) + [(59,), (0, 59), tuple(range(60)), (9, 10), (2, 10), (7, 30)]:
            self.told(places, read_places, places_text(places))

    def test_each_place_alone(self):
        for place in range(60):
            self.told((place,), read_places, str(place))
        for number in (60, 61, 99, 100, 600, -1, 10 ** 99):
            self.refused(NoText, read_places, str(number))

    def test_none(self):
        self.told((), read_places, "")
        for text in (" ", ",", "\n", ",,", "0,", ",0", "none", "()", "-"):
            self.refused(NoText, read_places, text)

    def test_no_rising_places(self):
        for text in ("1,0", "0,0", "0,1,1", "0,2,1", "10,9", "59,58", "5,5,5"):
            self.refused(NoText, read_places, text)

    def test_marks(self):
        for text in ("0, 1", "0 ,1", " 0,1", "0,1 ", "0,1\n", "0 1", "0-1", "0;1", "0,,1", "0.1", "(0,1)", "0,1,"):
            self.refused(NoText, read_places, text)

    def test_numbers(self):
        for text in ("00", "01", "0,01", "+1", "-1", "0,+1", "1.0", "1e1", "x", "0,x", "1" * 5000, "0," + "1" * 5000,
                     "0" * 5000, "0x1", "1_0", "0,60", "59,60"):
            self.refused(NoText, read_places, text)

    def test_texts_near_places(self):
        right = 0
        for text in ("", "0", "59", "0,1", "3,14,15", "9,10,59"):
            for near in near_texts(text):
                right += self.judged(near)
        self.assertGreater(right, 50)

    def test_anything(self):
        for thing in samples.odd_things() + samples.great_things() + [(0, 1), [0, 1], ["0,1"], {"0": 1}, {}]:
            if thing == "" or thing == "0" and type(thing) is str:
                self.judged(thing)
            else:
                self.refused(NoText, read_places, thing)
        self.refused(NoText, read_places, "0," * 99999 + "1")


class ReadTree(Asking):

    def judged(self, text):
        right = plain_tree(text)
        if right is None:
            self.refused(NoText, read_tree, text)
        else:
            self.told(right, read_tree, text)
        return right is not None

    def test_there_and_back(self):
        for web in judges.tiny_webs() + judges.small_webs() + judges.great_webs() + [full(20), comb(30), ladder(30)]:
            self.told(web[1], read_tree, tree_text(web[1]))

    def test_ordinary(self):
        self.told(((0, 1), (1, 2)), read_tree, "0-1 1-2")
        self.told(((0, 59),), read_tree, "0-59")
        self.told(((58, 59),), read_tree, "58-59")
        # Any rising ties, whether they are a tree or not, and however many.
        self.told(((0, 1), (0, 2), (1, 2), (40, 50)), read_tree, "0-1 0-2 1-2 40-50")
        self.told(full(60)[1], read_tree, tree_text(full(60)[1]))

    def test_none(self):
        self.told((), read_tree, "")
        for text in (" ", "-", "\n", "0", "0-", "-1", "0-1 ", " 0-1", "--"):
            self.refused(NoText, read_tree, text)

    def test_no_rising_ties(self):
        for text in ("1-0", "1-1", "0-1 0-1", "1-2 0-1", "0-2 0-1", "0-1 2-1", "0-1 1-2 1-2", "0-10 0-9"):
            self.refused(NoText, read_tree, text)

    def test_marks(self):
        for text in ("0-1  1-2", "0-1,1-2", "0 -1", "0- 1", "0-1\n1-2", "0-1 1-2\n", "0--1", "0-1-2", "0,1", "0 1",
                     "0-1 1 - 2", "(0-1)", "0~1"):
            self.refused(NoText, read_tree, text)

    def test_numbers(self):
        for text in ("0-01", "00-1", "0-+1", "-0-1", "0-60", "59-60", "0-99", "0-x", "0-" + "1" * 5000, "0-1.0",
                     "1" * 5000 + "-" + "2" * 5000, "0-1 1-" + "0" * 5000):
            self.refused(NoText, read_tree, text)

    def test_texts_near_ties(self):
        right = 0
        for text in ("0-1", "0-1 1-2", "3-14 5-9 5-10", "0-59"):
            for near in near_texts(text):
                right += self.judged(near)
        self.assertGreater(right, 30)

    def test_anything(self):
        for thing in samples.odd_things() + samples.great_things() + [((0, 1),), ["0-1"], {"0-1": 0}, ("0-1", "1-2")]:
            if thing != "" or type(thing) is not str:
                self.refused(NoText, read_tree, thing)
        self.refused(NoText, read_tree, "0-1 " * 99999 + "0-1")


if __name__ == "__main__":
    unittest.main()

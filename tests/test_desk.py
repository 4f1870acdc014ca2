"""A desk that is asked by lines (point 31)."""

import itertools
import unittest

from manyleaves.atonce import at_once
from manyleaves.desk import Desk
from manyleaves.errors import Apart, LeafError, NoSet, NoTie, Taken, TooGreat, TooMany
from manyleaves.growing import grown
from manyleaves.keeper import Keeper
from manyleaves.most import most_leaves
from manyleaves.musts import musts
from manyleaves.texts import places_text, tree_text, web_text
from manyleaves.trees import busy_of, leaves_of
from manyleaves.two import two_trees
from manyleaves.whys import why_not

import judges
import samples
from samples import comb, far_ties, full, ladder, most_ties, ring, star, way

NAMES = {TooGreat: "TooGreat", NoSet: "NoSet", Taken: "Taken", TooMany: "TooMany", NoTie: "NoTie", Apart: "Apart"}
ALONE = ("web", "tree", "leaves", "busy", "musts", "kind", "grown", "most", "two")
WORDS = ALONE + ("put", "drop", "why")


def kind_told(web):
    told = at_once(web)
    return "none" if told is None else told[0]


def plain_told(keeper, line):
    """What a desk is to tell by the modules, of a right line."""
    web, tree = keeper.now(), keeper.kept()
    word, *rest = line.split(" ")
    places = tuple(int(p) for p in rest[0].split(",")) if rest and word in ("most", "why") else ()
    if word in ("put", "drop"):
        deed = keeper.put if word == "put" else keeper.drop
        return f"done {len(deed(int(rest[0]), int(rest[1])))}"
    if word == "most":
        return str(len(leaves_of(most_leaves(web, places)[0])))
    if word == "why":
        why = why_not(web, (), places)
        return "kept" if why is None else why[0]
    return {
        "web": lambda: web_text(web), "tree": lambda: tree_text(tree), "leaves": lambda: places_text(leaves_of(tree)),
        "busy": lambda: places_text(busy_of(tree)), "musts": lambda: places_text(musts(web)),
        "kind": lambda: kind_told(web), "grown": lambda: places_text(tuple(sorted(grown(web)[0]))),
        "two": lambda: two_trees(web)[0],
    }[word]()


class Said(unittest.TestCase):

    def says(self, desk, line, text):
        """See to it that a desk tells just a text of a line."""
        ahead = repr(line)
        told = desk.say(line)
        self.assertIs(type(told), str)
        self.assertEqual(told, text, line if len(repr(line)) < 200 else "")
        self.assertNotIn(chr(37), told)
        self.assertEqual(repr(line), ahead)

    def no_word(self, desk, line):
        self.says(desk, line, "no NoWord")

    def agree(self, desk, keeper, lines):
        """See to it that a desk tells of right lines what the modules tell; tell all that it told."""
        told = []
        for line in lines:
            try:
                right = plain_told(keeper, line)
            except LeafError as error:
                right = "no " + NAMES[type(error)]
            self.says(desk, line, right)
            if line.split(" ")[0] not in ("put", "drop"):
                self.says(desk, line, right)
            told.append(right)
        return told

    def test_ordinary(self):
        desk = Desk(ring(5))
        for line, text in (
            ("web", "places 5\ntie 0 1\ntie 0 4\ntie 1 2\ntie 2 3\ntie 3 4\n"), ("tree", "0-1 0-4 1-2 2-3"),
            ("leaves", "3,4"), ("busy", "0,1,2"), ("musts", ""), ("kind", "ring"), ("grown", "0,1,2"), ("most", "2"),
            ("most 0", "2"), ("most 1,2", "2"), ("why 0", "kept"), ("why 0,2", "apart"), ("why 0,1,4", "bare"),
            ("two", "none"), ("put 3 1", "done 1"), ("leaves", "2,3,4"), ("tree", "0-1 0-4 1-2 1-3"), ("busy", "0,1"),
            ("kind", "none"), ("most", "3"), ("drop 2 3", "done 0"), ("musts", "1"), ("put 2 4", "done 0"),
            ("web", "places 5\ntie 0 1\ntie 0 4\ntie 1 2\ntie 1 3\ntie 2 4\ntie 3 4\n"), ("kind", "sides"),
        ):
            self.says(desk, line, text)

    def test_put_and_drop(self):
        desk = Desk(way(4))
        for line, text in (("put 0 2", "done 1"), ("put 2 0", "no Taken"), ("put 0 2", "no Taken"),
                           ("drop 1 3", "no NoTie"), ("drop 3 1", "no NoTie"), ("drop 2 3", "no Apart"),
                           ("drop 3 2", "no Apart"), ("tree", "0-2 1-2 2-3"), ("drop 1 0", "done 0"),
                           ("drop 0 1", "no NoTie"), ("web", "places 4\ntie 0 2\ntie 1 2\ntie 2 3\n"),
                           ("put 3 0", "done 0"), ("put 1 3", "done 0"), ("drop 2 1", "done 1"),
                           ("tree", "0-3 1-3 2-3")):
            self.says(desk, line, text)

    def test_a_put_with_several_rows(self):
        desk = Desk((6, ((0, 1), (0, 3), (1, 2), (3, 4), (4, 5))))
        self.says(desk, "put 4 1", "done 2")
        self.says(desk, "tree", "0-1 1-2 1-4 3-4 4-5")

    def test_refusals(self):
        self.says(Desk(ring(4)), "put 0 1", "no Taken")
        self.says(Desk(most_ties(200)), "put 58 56", "no TooMany")
        self.says(Desk(most_ties(200)), "put 59 58", "no Taken")
        self.says(Desk(ring(4)), "drop 0 2", "no NoTie")
        self.says(Desk(way(4)), "drop 2 1", "no Apart")
        self.says(Desk(way(12)), "most 1", "no NoSet")
        self.says(Desk(way(13)), "most", "no TooGreat")
        self.says(Desk(way(13)), "most 1", "no TooGreat")
        self.says(Desk(way(13)), "two", "no TooGreat")
        self.says(Desk(full(12)), "two", "two")
        self.says(Desk(full(12)), "most 0,1,2,3,4,5,6,7,8,9,10", "11")
        self.says(Desk(full(12)), "most 0,1,2,3,4,5,6,7,8,9,10,11", "no NoSet")

    def test_what_is_refused_changes_nothing(self):
        for web, lines in ((way(5), ("drop 1 2", "drop 0 4", "put 1 0", "most 2", "put 1 1", "put 0 5")),
                           (most_ties(200), ("put 58 56", "drop 58 56", "put 0 1", "most", "two", "drop 0"))):
            desk = Desk(web)
            ahead = [desk.say(line) for line in ("web", "tree", "leaves", "grown")]
            for line in lines:
                self.assertTrue(desk.say(line).startswith("no "))
                self.assertEqual([desk.say(line) for line in ("web", "tree", "leaves", "grown")], ahead)

    def test_each_word_with_too_few_and_too_many_things(self):
        desk = Desk(ring(5))
        for word in ALONE:
            self.assertNotEqual(desk.say(word), "no NoWord")
            for line in (word + " ", " " + word, word + "\n", word + " 0 1", word + "  ", word.upper(), word + word,
                         word[:-1], word + ",", word + " x", word + "\t", "\n" + word):
                self.no_word(desk, line)
            if word != "most":
                self.no_word(desk, word + " 0")
        for word in ("put", "drop"):
            for rest in ("", " ", " 0", " 0 ", " 0 2 3", " 0 2 ", "  0 2", " 0  2", " 0,2", " 0-2", " 0 2\n", " 0,2 3"):
                self.no_word(desk, word + rest)
        for word in ("why", "most"):
            for rest in (" ", "  ", " 0 1", " 0 ", "  0", " 0, 1", " 0,1\n", " 0-1", ",0"):
                self.no_word(desk, word + rest)
        self.no_word(desk, "why")
        self.assertEqual(desk.say("web"), web_text(ring(5)))

    def test_places_of_a_line(self):
        desk = Desk(ring(5))
        for text in ("1,0", "0,0", "0,1,1", "0,2,1", "5", "0,5", "60", "-1", "01", "00", "+1", "1.0", "x", "0,x", "0,",
                     ",0", ",", "1" * 5000, "0,,1", "one", "", "9" * 99, "~"):
            self.no_word(desk, "most " + text)
            self.no_word(desk, "why " + text)
        for a, b in (("0", "0"), ("4", "4"), ("0", "5"), ("5", "0"), ("0", "60"), ("00", "1"), ("0", "01"), ("+0", "1"),
                     ("-1", "1"), ("0", "-1"), ("0", "x"), ("", "1"), ("1", ""), ("0", "1" * 5000), ("0.0", "1"),
                     ("5", "5"), ("0,1", "2"), ("2", "0,1")):
            self.no_word(desk, f"put {a} {b}")
            self.no_word(desk, f"drop {a} {b}")
        self.says(desk, "put 4 1", "done 1")
        self.says(desk, "most 4", "3")
        self.says(desk, "why 0,1,2,3,4", "bare")

    def test_places_below_the_number_of_the_web(self):
        for n in (3, 12, 59, 60):
            desk = Desk(way(n))
            self.says(desk, f"why {n - 1}", "kept")
            self.no_word(desk, f"why {n}")
            self.no_word(desk, f"why 0,{n}")
            self.no_word(desk, f"put 0 {n}")
            self.no_word(desk, f"drop {n} {n - 1}")
            self.no_word(desk, f"most {n}")
            self.says(desk, f"put 0 {n - 1}", Keeper(way(n)).put(0, n - 1) == () and "done 0")

    def test_most_alone_and_why_alone(self):
        desk = Desk(judges.STUCK)
        self.says(desk, "most", "4")
        self.says(desk, "most 0", "no NoSet")
        self.says(desk, "most 1", "4")
        self.no_word(desk, "most ")
        self.no_word(desk, "why")
        self.no_word(desk, "why ")

    def test_no_such_words(self):
        desk = Desk(ring(5))
        for line in ("", " ", "\n", "hello", "Web", "TREE", "put", "quit", "no NoWord", "done 0", "web tree", "tree 0",
                     "web\nweb", "keeper", "cheapest", "most_leaves", "None", "~", "0", "put 0 1 put 0 1", "x" * 99999,
                     " ".join(["put"] * 9999), "get", "say web"):
            self.no_word(desk, line)

    def test_anything(self):
        for web in (way(3), ring(5), most_ties(200)):
            desk = Desk(web)
            things = samples.odd_things() + samples.great_things()
            things += [["web"], ("web",), {"web": 0}, ["put", 0, 2], ("put", "0", "2"), ["put 0 2"], ("put 0 2",)]
            for thing in things:
                self.no_word(desk, thing)
            self.says(desk, "web", web_text(web))

    def test_each_line_tells_what_the_modules_tell(self):
        for web in judges.small_webs() + judges.webs_of(12)[::3]:
            n = web[0]
            desk, keeper = Desk(web), Keeper(web)
            for tie in list(itertools.combinations(range(n), 2))[:: 1 + n // 3]:
                lines = [f"put {tie[1]} {tie[0]}", f"drop {tie[0]} {(tie[1] + 1) % n}"]
                lines = [line for line in lines if len(set(line.split(" "))) == 3]
                self.agree(desk, keeper, lines + list(ALONE))
            self.agree(desk, keeper, [f"{word} {p}" for word in ("most", "why") for p in range(n)])
            self.agree(desk, keeper, [f"{word} {places_text(some)}" for word in ("most", "why")
                                      for some in judges.some_wishes(n) if some])

    def test_all_places_of_small_webs(self):
        told = set()
        for web in (way(4), ring(4), (5, ((0, 1), (0, 2), (1, 2), (2, 3), (3, 4))), judges.STUCK, ladder(3)):
            desk, keeper = Desk(web), Keeper(web)
            for some in list(judges.choices(range(web[0])))[1:]:
                told |= set(self.agree(desk, keeper, [f"most {places_text(some)}", f"why {places_text(some)}"]))
                right = "kept" if judges.keeping(judges.busy_sets(web), (), some) else None
                if right:
                    self.says(desk, f"why {places_text(some)}", right)
        self.assertLessEqual({"kept", "bare", "apart", "no NoSet", "2"}, told)

    def test_why_is_of_a_kind_that_is_there(self):
        for web in (way(4), ring(5), star(4, 2)):
            for some in list(judges.choices(range(web[0])))[1:]:
                kinds = {why[0] for why in judges.whys_of(web[0]) if judges.is_why(web, (), some, why)} or {"kept"}
                self.assertIn(Desk(web).say(f"why {places_text(some)}"), kinds)

    def test_thirteen_places(self):
        for web in (way(13), ring(13), judges.mixed(13, 2)):
            lines = ALONE + ("most 0", "why 1,3", "put 0 5", "most 1", "tree", "drop 0 1")
            told = self.agree(Desk(web), Keeper(web), lines)
            self.assertEqual(told.count("no TooGreat"), 4)

    def test_sixty_places(self):
        for web in (way(60), ring(60), comb(30), ladder(30), most_ties(200), far_ties(200)):
            lines = ALONE + ("why 0,59", "why 30", "put 0 40", "tree", "drop 40 0", "tree", "drop 29 30", "tree",
                             "kind", "put 59 1", "leaves", "busy", "grown", "web")
            self.agree(Desk(web), Keeper(web), lines)

    def test_grown_tells_rising_places(self):
        web = (6, ((0, 1), (1, 2), (2, 3), (3, 4), (3, 5)))
        self.assertEqual(grown(web)[0], (3, 2, 1))
        self.says(Desk(web), "grown", "1,2,3")

    def test_grown_is_of_the_web_and_busy_of_the_kept_tree(self):
        desk = Desk(judges.HELPED)
        self.says(desk, "grown", "0,1,3,5")
        self.says(desk, "busy", "1,4,5")
        self.says(desk, "leaves", "0,2,3,6")

    def test_kinds(self):
        for web, kind in ((way(9), "tree"), (full(5), "full"), (ring(6), "ring"), (judges.sides(3, 4), "sides"),
                          (ladder(5), "ladder"), (judges.STUCK, "none")):
            self.says(Desk(web), "kind", kind)

    def test_two_desks_side_by_side(self):
        one, other = Desk(ring(6)), Desk(ring(6))
        one.say("put 0 3")
        self.says(other, "web", web_text(ring(6)))
        self.says(other, "put 0 3", "done 2")
        self.assertEqual(one.say("tree"), other.say("tree"))

    def test_somewhat_beyond_the_bounds(self):
        desk = Desk(way(65))
        self.says(desk, "put 0 64", "done 0")
        self.says(desk, "kind", "ring")
        self.says(desk, "why 62,64", "apart")
        self.no_word(desk, "why 65")


if __name__ == "__main__":
    unittest.main()

"""Webs of a known kind, answered at once (point 24)."""

import itertools
import unittest

from manyleaves.atonce import at_once

import judges
import samples
from judges import is_ladder, kind_of, renamed, sides, some_names
from samples import Asking, all_webs, comb, far_ties, full, ladder, most_ties, ring, star, way


def web_with(web, more):
    return (web[0], tuple(sorted(web[1] + tuple(more))))


def web_without(web, some):
    return (web[0], tuple(tie for tie in web[1] if tie not in some))


def missing(web):
    return [tie for tie in full(web[0])[1] if tie not in web[1]]


def one_more(web):
    return [web_with(web, (tie,)) for tie in missing(web)]


def one_less(web):
    return [some for some in (web_without(web, (tie,)) for tie in web[1]) if samples.is_web(some)]


def one_moved(web):
    """The web with one tie led elsewhere, wherever it stays in one piece."""
    for old in web[1]:
        for new in missing(web):
            if set(old) & set(new):
                moved = web_with(web_without(web, (old,)), (new,))
                if samples.is_web(moved):
                    yield moved


def crossed(k, column):
    """A ladder with the two ties between a column and the next exchanged crosswise."""
    web = web_without(ladder(k), ((column, column + 1), (k + column, k + column + 1)))
    return web_with(web, ((column, k + column + 1), (column + 1, k + column)))


def leaves_told(kind, web):
    """How many leaves the document tells of a kind."""
    n = web[0]
    if kind == "tree":
        return len(judges.ends_of(n, web[1]))
    if kind == "ladder":
        return 4 if n == 6 else n // 2
    return {"full": n - 1, "ring": 2, "sides": n - 2}[kind]


class AtOnce(Asking):

    def judged(self, web):
        """See to it that a web is told by its first kind, with a tree of as many leaves as the document tells."""
        kind = kind_of(web)
        told = self.ask(at_once, web)
        if kind is None:
            self.assertIsNone(told, web)
            return None
        self.assertIs(type(told), tuple)
        self.assertEqual(told[0], kind, web)
        self.assertEqual(len(told), 2)
        self.assertTrue(samples.is_tree(web, told[1]), (web, told))
        self.assertEqual(len(judges.ends_of(web[0], told[1])), leaves_told(kind, web), (web, told))
        return kind

    def best(self, web):
        """See to it that the told tree has the most leaves, by all busy sets."""
        kind = self.judged(web)
        if kind is not None:
            fewest = min(map(len, judges.busy_sets(web)))
            self.assertEqual(len(judges.busy_in(web[0], at_once(web)[1])), fewest, web)
        return kind

    def all_told(self, kind, web):
        """See to it that a web is of a kind however its places are numbered."""
        for names in some_names(web[0]):
            self.assertEqual(self.judged(renamed(web, names)), kind, (web, names))

    def test_trees(self):
        for web in (way(3), way(60), star(3, 1), star(60, 17), comb(2), comb(30)):
            self.told(("tree", web[1]), at_once, web)
            self.all_told("tree", web)
        for tree in samples.all_trees(full(5)):
            self.told(("tree", tree), at_once, (5, tree))

    def test_full(self):
        for n in (3, 4, 5, 6, 13, 20):
            self.all_told("full", full(n))

    def test_rings(self):
        for n in (4, 5, 6, 13, 59, 60):
            self.all_told("ring", ring(n))

    def test_sides(self):
        for a, b in ((2, 3), (3, 2), (3, 3), (2, 4), (4, 2), (4, 5), (7, 6), (2, 58), (58, 2), (10, 20), (20, 10),
                     (4, 50), (50, 4), (14, 14), (3, 57)):
            self.all_told("sides", sides(a, b))

    def test_ladders(self):
        for k in (3, 4, 5, 6, 7, 12, 29, 30):
            self.all_told("ladder", ladder(k))

    def test_ladders_of_all_lengths(self):
        for k in range(3, 31):
            self.assertEqual(self.judged(ladder(k)), "ladder")
            self.assertEqual(self.judged(renamed(ladder(k), tuple(range(2 * k))[::-1])), "ladder")

    def test_the_first_kind_is_told(self):
        for web, kind in ((sides(1, 2), "tree"), (sides(2, 1), "tree"), (sides(1, 59), "tree"), (sides(59, 1), "tree"),
                          (ring(3), "full"), (ring(4), "ring"), (sides(2, 2), "ring"), (ladder(2), "ring")):
            self.all_told(kind, web)

    def test_the_leaves(self):
        for web, leaves in ((way(9), 2), (star(9), 8), (full(3), 2), (full(20), 19), (ring(4), 2), (ring(60), 2),
                            (sides(2, 3), 3), (sides(3, 3), 4), (sides(10, 20), 28), (ladder(3), 4), (ladder(4), 4),
                            (ladder(5), 5), (ladder(30), 30)):
            self.assertEqual(len(judges.ends_of(web[0], self.ask(at_once, web)[1])), leaves)

    def test_crosswise_within_a_ladder(self):
        for k in (3, 4, 5, 8, 30):
            for column in range(k - 1):
                self.assertEqual(self.judged(crossed(k, column)), "ladder")
        twice = web_without(crossed(8, 2), ((5, 6), (13, 14)))
        self.assertEqual(self.judged(web_with(twice, ((5, 14), (6, 13)))), "ladder")

    def test_both_ends_tied(self):
        for k in (3, 4, 5, 6, 7, 30):
            straight, crosswise = ((0, k - 1), (k, 2 * k - 1)), ((0, 2 * k - 1), (k - 1, k))
            self.told(None, at_once, web_with(ladder(k), straight))
            if k > 3:
                self.told(None, at_once, web_with(ladder(k), crosswise))
            for tie in straight + crosswise:
                self.told(None, at_once, web_with(ladder(k), (tie,)))
        # Three columns with the ends tied crosswise are three places and three, each tied to each.
        self.assertEqual(self.judged(web_with(ladder(3), ((0, 5), (2, 3)))), "sides")

    def test_one_tie_of_a_ladder_moved(self):
        for k in (3, 4, 5, 6):
            for web in one_moved(ladder(k)):
                self.judged(web)
        told = [self.judged(web) for web in itertools.islice(one_moved(ladder(30)), 0, None, 23)]
        self.assertGreater(len(told), 300)
        self.assertIn(None, told)

    def test_a_moved_tie_that_turns_the_end_of_a_ladder_about(self):
        # The end columns 0, 7 and 1, 8 are a ring of four; the next column may hang on 7 and 8 as well as on 1 and 8.
        web = web_with(web_without(ladder(7), ((1, 2),)), ((2, 7),))
        self.assertEqual(self.judged(web), "ladder")
        self.assertEqual([self.judged(some) for some in one_moved(ladder(7))].count("ladder"), 4)
        self.told(None, at_once, web_with(web_without(ladder(7), ((1, 2),)), ((2, 13),)))
        self.told(None, at_once, web_with(web_without(ladder(7), ((2, 3),)), ((2, 7),)))

    def test_one_tie_less_or_more(self):
        for web in (full(3), full(4), full(5), full(7), ring(4), ring(5), ring(9), sides(2, 3), sides(3, 3),
                    sides(3, 4), ladder(3), ladder(4), ladder(6), way(5), comb(3), star(6)):
            for some in one_more(web) + one_less(web):
                self.judged(some)
        for web in (full(20), ring(60), sides(10, 20), sides(50, 4), ladder(30), way(60), comb(30)):
            for some in (one_more(web) + one_less(web))[::23]:
                self.judged(some)

    def test_one_tie_moved(self):
        for web in (ring(4), ring(5), ring(6), sides(2, 3), sides(3, 2), sides(3, 3), sides(2, 4), comb(3), way(5)):
            for some in one_moved(web):
                self.judged(some)

    def test_two_sides_that_lack_a_tie_or_have_one_within(self):
        for a, b in ((3, 3), (2, 5), (5, 2), (10, 19)):
            web = sides(a, b)
            self.told(None, at_once, web_with(web, ((0, 1),)))
            self.told(None, at_once, web_with(web, ((a, a + 1),)))
            self.told(None, at_once, web_with(web, ((a + b - 2, a + b - 1),)))
            self.told(None, at_once, web_without(web, ((a - 1, a + b - 1),)))
            self.told(None, at_once, web_without(web, ((0, a),)))

    def test_three_ties_a_place_and_no_ladder(self):
        # As many places of two ties and of three as a ladder has, and as many ties.
        near = (8, ((0, 1), (0, 2), (1, 2), (2, 3), (3, 4), (3, 5), (4, 6), (4, 7), (5, 6), (5, 7)))
        triangles = (8, ((0, 1), (0, 2), (1, 3), (2, 3), (2, 4), (3, 5), (4, 5), (4, 6), (5, 7), (6, 7)))
        self.assertEqual(self.judged(triangles), "ladder")
        self.assertEqual(sorted(len(judges.lot(near, p)) - 1 for p in range(8)).count(2), 4)
        self.told(None, at_once, near)
        # At both ends a triangle, and two corners beside one another elsewhere.
        far = (8, ((0, 1), (0, 2), (1, 2), (2, 3), (3, 4), (3, 5), (4, 5), (4, 6), (5, 7), (6, 7)))
        self.told(None, at_once, far)
        # A ladder with a ladder's end hung on it by one place.
        self.told(None, at_once, (5, ((0, 1), (0, 2), (1, 2), (2, 3), (3, 4))))
        self.told(None, at_once, (5, ((0, 1), (0, 2), (1, 2), (2, 3), (2, 4), (3, 4))))

    def test_all_webs_of_three_to_five_places(self):
        found = {self.best(web) for n in (3, 4, 5) for web in all_webs(n)}
        self.assertEqual(found, {"tree", "full", "ring", "sides", None})

    def test_all_numberings_of_six_places(self):
        webs = {}
        for kind, web in (("full", full(6)), ("ring", ring(6)), ("sides", sides(2, 4)), ("sides", sides(3, 3)),
                          ("ladder", ladder(3))):
            for names in itertools.permutations(range(6)):
                webs[renamed(web, names)] = kind
        self.assertEqual(list(webs.values()).count("ladder"), 180)
        for web, kind in webs.items():
            self.assertEqual(at_once(web)[0], kind, web)
        for web in list(webs)[::40]:
            self.best(web)
        # And no other web of six places and seven ties is a ladder, none of eight or nine ties two sides.
        for ties in (7, 8, 9):
            for some in itertools.islice(itertools.combinations(full(6)[1], ties), 0, None, 3):
                if len(samples.lots(6, some)) == 1:
                    told = at_once((6, some))
                    self.assertEqual(told and told[0], webs.get((6, some)), some)

    def test_numberings_of_eight_places(self):
        ladders = {renamed(ladder(4), names) for names in itertools.permutations(range(8))}
        self.assertEqual(len(ladders), 10080)
        for web in sorted(ladders)[::7]:
            self.assertEqual(at_once(web)[0], "ladder")
            self.assertTrue(is_ladder(web))
        for web in one_moved(ladder(4)):
            told = at_once(web)
            self.assertEqual(told and told[0], "ladder" if web in ladders else None, web)

    def test_the_most_leaves_by_all_busy_sets(self):
        for web in (way(7), comb(4), full(7), ring(7), ring(9), sides(2, 5), sides(3, 4), sides(5, 4), ladder(3),
                    ladder(4), ladder(5), ladder(6), crossed(4, 1), crossed(6, 2)):
            for names in list(some_names(web[0]))[:3]:
                self.assertIsNotNone(self.best(renamed(web, names)))

    def test_none(self):
        for web in (judges.STUCK, judges.HELPED, most_ties(200), far_ties(200), judges.mixed(13, 2),
                    judges.mixed(60, 7), (4, ((0, 1), (0, 2), (1, 2), (2, 3)))):
            self.told(None, at_once, web)

    def test_webs_of_three_to_fourteen_places(self):
        for web in judges.small_webs() + judges.webs_of(10) + judges.webs_of(12) + judges.webs_of(14):
            for names in some_names(web[0]):
                self.judged(renamed(web, names))

    def test_somewhat_beyond_the_bounds(self):
        self.told(("tree", way(65)[1]), at_once, way(65))
        self.told(("tree", ((0, 1),)), at_once, (2, ((0, 1),)))
        for web, kind in ((full(21), "full"), (ring(61), "ring"), (sides(15, 15), "sides"), (ladder(33), "ladder")):
            self.assertEqual(self.judged(web), kind)


if __name__ == "__main__":
    unittest.main()

"""Places that must be busy, and those that need not (point 12)."""

import unittest

from manyleaves.musts import musts, need_not
from manyleaves.whys import right_why, why_not

import judges
import samples
from samples import Asking, comb, full, ladder, most_ties, ring, star, way


def cut_places(web):
    """The places without which the others are in several lots."""
    n = web[0]
    found = []
    for place in range(n):
        # The place itself, without ties now, is a lot of its own.
        if len(samples.lots(n, [tie for tie in web[1] if place not in tie])) > 2:
            found.append(place)
    return tuple(found)


class Musts(Asking):

    def test_ordinary(self):
        self.told((1,), musts, way(3))
        self.told((1, 2, 3), musts, way(5))
        self.told((), musts, ring(5))
        self.told((), musts, full(3))
        self.told((4,), musts, star(9, 4))
        self.told((0, 1, 2, 3), musts, comb(4))
        self.told((), musts, ladder(3))
        self.told((2,), musts, (4, ((0, 1), (0, 2), (1, 2), (2, 3))))
        self.told((2,), musts, (5, ((0, 1), (0, 2), (1, 2), (2, 3), (2, 4), (3, 4))))

    def test_twelve_and_thirteen_places(self):
        self.told(tuple(range(1, 11)), musts, way(12))
        self.told(tuple(range(1, 12)), musts, way(13))
        self.told((), musts, ring(13))
        self.told((0, 1, 2, 3, 4, 5), musts, comb(6))
        self.told((), musts, full(13))

    def test_sixty_places(self):
        self.told(tuple(range(1, 59)), musts, way(60))
        self.told((), musts, ring(60))
        self.told((59,), musts, star(60, 59))
        self.told(tuple(range(30)), musts, comb(30))
        self.told((), musts, ladder(30))
        for web in judges.great_webs():
            self.told(cut_places(web), musts, web)

    def test_against_all_busy_sets(self):
        for web in judges.tiny_webs() + judges.small_webs():
            sets = judges.busy_sets(web)
            each = tuple(p for p in range(web[0]) if all(p in some for some in sets))
            self.told(each, musts, web)

    def test_a_why_for_barring_each_alone(self):
        for web in judges.tiny_webs() + judges.small_webs() + judges.great_webs():
            for place in musts(web):
                self.assertIs(right_why(web, (), (place,), why_not(web, (), (place,))), True)

    def test_somewhat_beyond_the_bounds(self):
        self.told(tuple(range(1, 64)), musts, way(65))
        self.told((), musts, (2, ((0, 1),)))


class NeedNot(Asking):

    def is_leaf(self, web, place):
        tree = self.ask(need_not, web, place)
        self.assertTrue(samples.is_tree(web, tree), (web, place, tree))
        self.assertEqual(sum(place in tie for tie in tree), 1, (web, place, tree))

    def test_a_place_that_must_be_busy(self):
        self.told(None, need_not, way(3), 1)
        self.told(None, need_not, star(9, 4), 4)
        self.told(None, need_not, comb(4), 0)
        self.told(None, need_not, way(60), 30)
        self.told(None, need_not, (4, ((0, 1), (0, 2), (1, 2), (2, 3))), 2)

    def test_a_place_that_need_not(self):
        self.told(way(3)[1], need_not, way(3), 0)
        self.told(way(60)[1], need_not, way(60), 59)
        self.told(star(60)[1], need_not, star(60), 1)
        for web, place in ((full(3), 1), (ring(5), 0), (ring(60), 59), (most_ties(200), 0), (full(20), 19)):
            self.is_leaf(web, place)

    def test_each_place_of_many_webs(self):
        webs = judges.tiny_webs() + judges.small_webs() + judges.webs_of(12) + judges.great_webs()
        for web in webs + [way(13), ring(13), judges.mixed(13, 5)]:
            must = cut_places(web)
            for place in range(web[0]):
                if place in must:
                    self.told(None, need_not, web, place)
                else:
                    self.is_leaf(web, place)

    def test_none_just_where_the_place_is_a_leaf_of_no_tree(self):
        for web in judges.tiny_webs():
            trees = list(samples.all_trees(web))
            for place in range(web[0]):
                leaf = any(sum(place in tie for tie in tree) == 1 for tree in trees)
                self.assertEqual(need_not(web, place) is not None, leaf, (web, place))

    def test_somewhat_beyond_the_bounds(self):
        self.told(None, need_not, way(65), 30)
        self.told(way(65)[1], need_not, way(65), 64)


if __name__ == "__main__":
    unittest.main()

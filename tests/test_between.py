"""The most leaves between two numbers (point 33, and what point 3 says of it)."""

import math
import unittest

from manyleaves.between import between
from manyleaves.bounds import bound_of, least_price

import judges
from judges import HELPED, STUCK
from samples import Asking, all_webs, comb, far_ties, full, ladder, most_ties, ring, star, way


def most_leaves(web):
    """The most leaves of a web, by all its busy sets."""
    return web[0] - min(map(len, judges.busy_sets(web)))


class Between(Asking):

    def judged(self, web):
        """See to it that the numbers are those that the words of the document tell; tell them."""
        n = web[0]
        few, many = self.ask(between, web)
        self.assertEqual(few, len(judges.ends_of(n, judges.climb(web, judges.grow(web)[1])[1])), web)
        self.assertEqual(many, n - least_price((1,) * n, bound_of(web, (1,) * n)), web)
        must = tuple(p for p in range(n) if len(without(web, p)) > 1)
        worth = judges.worth((1,) * n, must, judges.raised_by_ones(web, (1,) * n, must, (), range(n)))
        self.assertLessEqual(many, n - math.ceil(worth), web)
        self.assertLessEqual(few, many, web)
        return (few, many)

    def holds(self, web):
        few, many = self.judged(web)
        self.assertTrue(few <= most_leaves(web) <= many, (web, few, many))

    def test_ordinary(self):
        self.told((3, 3), between, (4, ((0, 1), (1, 2), (1, 3))))
        self.told((4, 4), between, (6, ((0, 1), (0, 2), (1, 2), (2, 3), (3, 4), (3, 5))))

    def test_where_both_numbers_are_one(self):
        for web, leaves in ((way(3), 2), (way(60), 2), (star(60, 9), 59), (full(3), 2), (full(20), 19), (comb(30), 30),
                            (most_ties(200), 59)):
            self.told((leaves, leaves), between, web)

    def test_where_they_are_not(self):
        # Which bound is told is not promised; the raised shares, which it does not go below, tell a third of a ring.
        for n in (6, 9, 12, 60):
            few, many = self.judged(ring(n))
            self.assertEqual(few, 2)
            self.assertTrue(2 <= many <= n - n // 3)
        few, many = self.judged(ladder(30))
        self.assertTrue(few <= 30 <= many)

    def test_the_grown_tree_is_climbed_from(self):
        self.assertEqual(self.judged(HELPED)[0], 4)
        self.assertEqual(len(judges.ends_of(7, judges.grow(HELPED)[1])), 3)

    def test_all_busy_sets_of_small_webs(self):
        for n in (3, 4):
            for web in all_webs(n):
                self.holds(web)
        for web in list(all_webs(5))[::7] + [STUCK]:
            self.holds(web)

    def test_all_busy_sets_of_webs_of_three_to_twelve_places(self):
        for web in judges.small_webs() + judges.webs_of(10) + judges.webs_of(12):
            for names in list(judges.some_names(web[0]))[:4]:
                if web[0] < 12 or names[0] == 0:
                    self.holds(judges.renamed(web, names))

    def test_thirteen_and_fourteen_places(self):
        for web in (way(13), ring(13), full(13), judges.mixed(13, 2), star(14, 6), judges.mixed(14, 4)):
            self.judged(web)
        self.holds(judges.mixed(13, 2))

    def test_sixty_places(self):
        for web in (way(60), ring(60), star(60, 30), comb(30), ladder(30), judges.mixed(60, 7), judges.mixed(60, 3)):
            self.judged(web)
        for ties in (60, 120, 200):
            few, many = self.ask(between, far_ties(ties))
            self.assertTrue(2 <= few <= many < 60)

    def test_no_tree_has_more_than_14_times_the_leaves_less_20(self):
        for web in judges.tiny_webs() + judges.small_webs() + judges.webs_of(12):
            self.assertLessEqual(most_leaves(web), 14 * between(web)[0] - 20, web)

    def test_somewhat_beyond_the_bounds(self):
        self.told((2, 2), between, way(65))
        self.told((20, 20), between, full(21))


def without(web, place):
    """The pieces of a web without a place."""
    left = [tie for tie in web[1] if place not in tie]
    return [some for some in judges.lots(web[0], left) if place not in some]


if __name__ == "__main__":
    unittest.main()

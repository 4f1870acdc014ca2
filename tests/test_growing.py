"""Growing: places made busy one by one (point 22)."""

import unittest

from manyleaves.growing import climbed_from_grown, grown

import judges
import samples
from judges import HELPED
from samples import Asking, comb, far_ties, full, ladder, most_ties, ring, star, way


class Grown(Asking):

    def judged(self, web):
        """See to it that just what the words of the document tell is grown; tell the order."""
        order, tree = self.ask(grown, web)
        self.assertEqual(repr((order, tree)), repr(judges.grow(web)), web)
        self.assertTrue(samples.is_tree(web, tree), web)
        self.assertEqual(judges.busy_in(web[0], tree), tuple(sorted(order)), web)
        self.assertTrue(judges.is_busy_set(web, tuple(sorted(order))), web)
        return order

    def test_ordinary(self):
        # 1 has the most neighbours; of 0, 2 and 3, which it touches, 2 has two untouched neighbours, 3 has one.
        web = (7, ((0, 1), (1, 2), (1, 3), (2, 4), (2, 5), (3, 5), (5, 6)))
        self.told(((1, 2, 5), ((0, 1), (1, 2), (1, 3), (2, 4), (2, 5), (5, 6))), grown, web)

    def test_a_place_counts_its_untouched_neighbours_alone(self):
        # 1 has more neighbours than 2 has, but all of them are touched by 0; beside 2 is 5 untouched.
        web = (6, ((0, 1), (0, 2), (0, 3), (0, 4), (1, 3), (1, 4), (2, 5)))
        self.told(((0, 2), ((0, 1), (0, 2), (0, 3), (0, 4), (2, 5))), grown, web)

    def test_only_a_touched_place_becomes_busy(self):
        # 5 has more untouched neighbours than 4 has, but no busy one touches it yet.
        web = (10, ((0, 1), (0, 2), (0, 3), (0, 4), (0, 9), (4, 5), (5, 6), (5, 7), (5, 8)))
        self.told(((0, 4, 5), web[1]), grown, web)

    def test_ties_to_untouched_places_alone(self):
        # 3 is touched by 0 when 1 becomes busy, and stays tied to 0 alone.
        web = (5, ((0, 1), (0, 2), (0, 3), (1, 3), (1, 4)))
        self.told(((0, 1), ((0, 1), (0, 2), (0, 3), (1, 4))), grown, web)

    def test_of_alike_places_the_one_with_the_least_number(self):
        self.told(((0, 1), ((0, 1), (0, 3), (1, 2))), grown, ring(4))
        self.told(((1, 2, 3), way(5)[1]), grown, way(5))
        self.told(((0, 1, 2), ((0, 1), (0, 4), (1, 2), (2, 3))), grown, ring(5))
        # The greater one became touched first: by the first busy place; both have one untouched neighbour.
        web = (8, ((0, 1), (0, 5), (1, 5), (1, 6), (2, 5), (2, 7), (3, 6), (4, 5)))
        self.told(((5, 1, 2, 6), ((0, 5), (1, 5), (1, 6), (2, 5), (2, 7), (3, 6), (4, 5))), grown, web)

    def test_one_busy_place_touches_all(self):
        for n in (3, 4, 9, 60):
            for middle in (0, 1, n // 2, n - 1):
                self.told(((middle,), star(n, middle)[1]), grown, star(n, middle))
        for n in (3, 5, 20):
            self.told(((0,), star(n)[1]), grown, full(n))
        self.told(((0,), star(60)[1]), grown, most_ties(200))

    def test_the_order_is_not_rising(self):
        self.assertEqual(self.judged((6, ((0, 1), (1, 2), (2, 3), (3, 4), (3, 5)))), (3, 2, 1))
        self.assertEqual(self.judged(judges.renamed(way(60), tuple(range(60))[::-1])), tuple(range(1, 59)))
        self.assertEqual(self.judged(judges.renamed(comb(4), (4, 2, 7, 0, 1, 3, 5, 6))), (2, 7, 0, 4))

    def test_all_small_webs(self):
        for n in (3, 4):
            for web in samples.all_webs(n):
                self.judged(web)
        for web in list(samples.all_webs(5))[::5]:
            self.judged(web)

    def test_webs_of_three_to_fourteen_places(self):
        webs = judges.small_webs() + judges.webs_of(10) + judges.webs_of(12) + judges.webs_of(14)
        for web in webs + [way(13), ring(13), full(13), judges.mixed(11, 4), judges.mixed(13, 2)]:
            for names in judges.some_names(web[0]):
                self.judged(judges.renamed(web, names))

    def test_sixty_places(self):
        for web in judges.great_webs() + [far_ties(200), far_ties(120), judges.mixed(60, 3)]:
            for names in judges.some_names(60):
                self.judged(judges.renamed(web, names))

    def test_as_many_as_a_way_has(self):
        self.told((tuple(range(1, 59)), way(60)[1]), grown, way(60))
        self.assertEqual(self.judged(ring(60)), tuple(range(58)))
        self.assertEqual(len(self.judged(ladder(30))), 30)

    def test_somewhat_beyond_the_bounds(self):
        self.assertEqual(self.judged(way(65)), tuple(range(1, 64)))
        self.told(((0,), star(21)[1]), grown, full(21))
        self.told(((0,), ((0, 1),)), grown, (2, ((0, 1),)))


class ClimbedFromGrown(Asking):

    def test_the_tree_that_is_climbed_to(self):
        for web in judges.tiny_webs() + judges.small_webs() + judges.webs_of(12):
            self.told(judges.climb(web, judges.grow(web)[1])[1], climbed_from_grown, web)

    def test_a_web_in_which_climbing_helps(self):
        # 1, 0, 3 and 5 become busy; 1, 4 and 5 would do.
        self.told(((1, 0, 3, 5), ((0, 1), (0, 3), (1, 2), (1, 4), (3, 5), (5, 6))), grown, HELPED)
        self.told(((0, 1), (1, 2), (1, 4), (3, 5), (4, 5), (5, 6)), climbed_from_grown, HELPED)


if __name__ == "__main__":
    unittest.main()

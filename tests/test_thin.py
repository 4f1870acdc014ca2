"""What is thin (point 15)."""

import unittest

from manyleaves.thin import is_thin

import judges
from samples import Asking, comb, full, ladder, ring, star, way


class IsThin(Asking):

    def test_ways_and_rings(self):
        # Each place between adds one to the two.
        self.told(True, is_thin, way(60), (), (), 57)
        self.told(False, is_thin, way(60), (), (), 58)
        self.told(True, is_thin, ring(60), (), (), 57)
        self.told(False, is_thin, ring(60), (), (), 58)
        self.told(True, is_thin, ring(3), (), (), 0)
        self.told(False, is_thin, ring(3), (), (), 1)

    def test_stars_and_full_webs(self):
        self.told(True, is_thin, star(60), (), (), 0)
        self.told(False, is_thin, star(60), (), (), 1)
        self.told(True, is_thin, star(60), (), (0,), 1)
        self.told(True, is_thin, star(60), (), (0,), 60000)
        self.told(False, is_thin, star(60), (0,), (), 1)
        self.told(False, is_thin, full(20), (), (), 1)
        self.told(True, is_thin, full(20), (), (), 0)

    def test_the_most_ties_first(self):
        # Place 1 has four ties, places 0 and 2 two, the others one.
        web = (7, ((0, 1), (0, 5), (1, 2), (1, 3), (1, 4), (2, 6)))
        self.told(True, is_thin, web, (), (), 1)
        self.told(True, is_thin, web, (), (), 2)
        self.told(False, is_thin, web, (), (), 3)
        self.told(True, is_thin, web, (), (1,), 60000)
        self.told(True, is_thin, web, (3,), (), 3)
        self.told(False, is_thin, web, (3,), (), 4)

    def test_limits_at_below_and_above_the_held(self):
        web = ring(9)
        held = (0, 1, 2)
        for limit in (0, 1, 2, 3, 4, 5, 6):
            self.told(True, is_thin, web, held, (), limit)
        self.told(False, is_thin, web, held, (), 7)
        self.told(False, is_thin, web, held, (), 60000)
        held = (0, 1, 2, 3, 4, 5, 6)
        for limit in (0, 3, 6, 7, 8, 60000):
            self.told(False, is_thin, web, held, (), limit)

    def test_the_least_and_the_greatest_limit(self):
        for web in judges.small_webs() + judges.great_webs():
            everything = tuple(range(web[0]))
            self.told(True, is_thin, web, (), (), 0)
            self.told(False, is_thin, web, (), (), 60000)
            self.told(True, is_thin, web, (), everything, 0)
            self.told(True, is_thin, web, (), everything, 60000)
            self.told(False, is_thin, web, everything, (), 0)
            self.told(False, is_thin, web, everything, (), 60000)

    def test_fewer_free_places_than_the_limit_asks(self):
        self.told(True, is_thin, ring(9), (0,), (1, 2, 3), 60000)
        self.told(True, is_thin, ring(9), (0,), (1, 2, 3), 7)
        self.told(False, is_thin, ring(9), (0,), (1, 2), 60000)
        self.told(False, is_thin, ring(9), (0,), (1, 2), 8)
        self.told(False, is_thin, ring(9), (0,), (1, 2), 7)
        self.told(True, is_thin, ring(9), (0,), (1, 2), 6)

    def test_barred_places_do_not_count(self):
        self.told(False, is_thin, comb(4), (), (), 4)
        self.told(True, is_thin, comb(4), (), (1,), 4)
        self.told(True, is_thin, comb(4), (), (1,), 60000)
        self.told(False, is_thin, ladder(30), (), (0,), 60000)

    def test_true_or_false_and_nothing_else(self):
        self.assertIs(is_thin(way(5), (), (), 2), True)
        self.assertIs(is_thin(way(5), (), (), 3), False)

    def test_all_states_of_small_webs_by_all_choices(self):
        for web in judges.tiny_webs():
            for held, barred in judges.all_states(web[0]):
                for limit in range(web[0] + 2):
                    self.told(judges.is_thin(web, held, barred, limit), is_thin, web, held, barred, limit)

    def test_states_of_webs_of_three_to_nine_places_by_all_choices(self):
        for web in judges.small_webs():
            for held, barred in judges.some_states(web[0], 1 + 3 ** web[0] // 40):
                for limit in list(range(web[0] + 2)) + [60000]:
                    self.told(judges.is_thin(web, held, barred, limit), is_thin, web, held, barred, limit)

    def test_then_no_busy_set_has_so_few_places(self):
        for web in judges.tiny_webs() + judges.small_webs():
            sets = judges.busy_sets(web)
            for held, barred in judges.some_states(web[0], 1 + 3 ** web[0] // 90):
                fewest = min([len(some) for some in judges.keeping(sets, held, barred)], default=60001)
                for limit in list(range(web[0] + 2)) + [60000]:
                    if is_thin(web, held, barred, limit):
                        self.assertGreater(fewest, limit, (web, held, barred))

    def test_somewhat_beyond_the_bounds(self):
        self.told(True, is_thin, way(65), (), (), 62)
        self.told(False, is_thin, way(65), (), (), 63)
        self.told(False, is_thin, way(65), (), (), 10 ** 20)
        self.told(True, is_thin, way(65), (), (), -1)


if __name__ == "__main__":
    unittest.main()

"""Bounds of webs of any size (point 32)."""

import math
import unittest

from manyleaves.bounds import bound_of, least_price, right_bound
from manyleaves.musts import musts

import judges
import samples
from samples import Asking, comb, full, most_ties, ring, star, way

HUGE = 10 ** 99
LEFT = (1, ("apart", (0,), 0, 2))
RIGHT = (2, ("apart", (3,), 3, 0))


class RightBound(Asking):

    def judged(self, web, prices, thing):
        self.told(judges.is_bound(web, prices, thing), right_bound, web, prices, thing)

    def test_ordinary(self):
        self.told(True, right_bound, way(4), (1,) * 4, ((LEFT, RIGHT), ()))
        self.told(True, right_bound, way(4), (1,) * 4, ((LEFT,), ((3, 1, 1),)))
        self.told(True, right_bound, way(4), (2, 3, 4, 5), ((RIGHT,), ((0, 2, 1),)))
        self.told(True, right_bound, ring(5), (1,) * 5, ((), tuple((p, 1, 3) for p in range(5))))
        bound = (((1, ("apart", (4,), 4, 0)),), ((3, 1, 1), (5, 3, 1)))
        self.told(True, right_bound, comb(3), (1, 2, 3, 4, 5, 6), bound)

    def test_sixty_places(self):
        sures = tuple((p, ("apart", tuple(range(p)), 0, 59)) for p in range(1, 59))
        self.told(True, right_bound, way(60), (1000,) * 60, (sures, ()))
        self.told(True, right_bound, way(60), (1000,) * 60, (sures[::2], ()))
        self.told(True, right_bound, way(60), (1,) * 60, (sures[:30], ((32, 1, 2), (34, 1, 2), (59, 1, 1))))
        self.told(False, right_bound, way(60), (1,) * 60, (sures[:31], ((32, 1, 2), (34, 1, 2), (59, 1, 1))))
        self.told(False, right_bound, way(60), (1000,) * 60, (sures[::-1], ()))
        self.told(True, right_bound, ring(60), (1,) * 60, ((), tuple((p, 1, 3) for p in range(60))))
        self.told(False, right_bound, ring(60), (1,) * 60, ((), tuple((p, 1, 2) for p in range(60))))

    def test_without_sures_and_without_shares(self):
        for web in judges.small_webs() + judges.great_webs():
            prices = (5,) * web[0]
            sures, shares = bound_of(web, prices)
            self.told(True, right_bound, web, prices, ((), ()))
            self.told(True, right_bound, web, prices, (sures, ()))
            self.told(True, right_bound, web, prices, ((), ((web[0] - 1, 5, 1),)))

    def test_sures_twice_or_out_of_order(self):
        other = (1, ("apart", (2, 3), 3, 0))
        self.told(True, right_bound, way(4), (1,) * 4, ((other, RIGHT), ()))
        for sures in ((LEFT, LEFT), (LEFT, other), (other, LEFT), (RIGHT, LEFT), (LEFT, RIGHT, LEFT),
                      (LEFT, RIGHT, RIGHT)):
            self.told(False, right_bound, way(4), (1,) * 4, (sures, ()))

    def test_a_why_of_another_place_or_of_none(self):
        for why in (RIGHT[1], ("bare", 0), ("bare", 1), ("apart", (), 0, 2), ("apart", (0, 1), 0, 3), (), None,
                    ("over",), ("thin",), ("shares", ())):
            self.told(False, right_bound, way(4), (1,) * 4, (((1, why),), ()))
        for p in (0, 2, 3):
            self.told(False, right_bound, way(4), (1,) * 4, (((p, LEFT[1]),), ()))

    def test_a_place_that_need_not_be_busy_is_no_sure(self):
        for web in judges.tiny_webs():
            must = musts(web)
            for place in range(web[0]):
                found = any(right_bound(web, (1,) * web[0], (((place, why),), ())) for why in judges.whys_of(web[0]))
                self.assertEqual(found, place in must, (web, place))

    def test_shares_are_for_the_state_with_the_sures_held(self):
        self.told(True, right_bound, way(4), (1,) * 4, ((), ((0, 1, 1),)))
        self.told(True, right_bound, way(4), (1,) * 4, ((RIGHT,), ((0, 1, 1),)))
        self.told(False, right_bound, way(4), (1,) * 4, ((LEFT,), ((0, 1, 1),)))
        self.told(False, right_bound, way(4), (1,) * 4, ((LEFT,), ((2, 1, 1),)))
        # A held place bounds no share, all others do, none being barred.
        web = (5, ((0, 1), (1, 2), (1, 3), (3, 4)))
        sure = (1, ("apart", (0,), 0, 2))
        self.told(True, right_bound, web, (9, 1, 9, 9, 9), ((sure,), ((4, 9, 1),)))
        self.told(False, right_bound, web, (9, 1, 9, 8, 9), ((sure,), ((4, 9, 1),)))
        self.told(False, right_bound, web, (9, 1, 9, 9, 8), ((sure,), ((4, 9, 1),)))

    def test_wrong_shares(self):
        for shares in (((0, 2, 1),), ((0, 2, 2),), ((0, 0, 1),), ((0, 1, 1), (0, 1, 1)), ((3, 1, 1), (0, 1, 1)),
                       ((4, 1, 1),), ((0, 1),), (0, 1, 1), [(0, 1, 1)], None, "", 0, ((0, True, 1),), ((0, 1, True),)):
            self.told(False, right_bound, way(4), (1,) * 4, ((), shares))

    def test_no_pairs(self):
        for thing in (((LEFT, RIGHT),), (), ((), (), ()), ((LEFT,),), [(), ()], ([], ()), ((), []), ({}, ()), ((), {}),
                      ("", ""), ("", ()), ((), ""), (LEFT, ()), (((1,),), ()), ((LEFT + (0,),), ()),
                      ((list(LEFT),), ()), (((1, list(LEFT[1])),), ()), (((True, LEFT[1]),), ()),
                      ((("1", LEFT[1]),), ()), (((), ()), ()), ((LEFT, None), ()), ({1: LEFT[1]}, ()), ([LEFT], ())):
            self.told(False, right_bound, way(4), (1,) * 4, thing)

    def test_places_beyond_the_web(self):
        for p in (-1, 4, 60, HUGE, -HUGE, True, False, None, "1", (1,), [1]):
            self.told(False, right_bound, way(4), (1,) * 4, (((p, ("bare", 0)),), ()))
            self.told(False, right_bound, way(4), (1,) * 4, ((LEFT,), ((p, 1, 1),)))

    def test_anything(self):
        for web in (way(4), full(3), most_ties(200)):
            prices = (3,) * web[0]
            for thing in samples.odd_things() + samples.great_things():
                self.judged(web, prices, thing)
                self.judged(web, prices, (thing, ()))
                self.judged(web, prices, ((), thing))
                self.judged(web, prices, ((thing,), ()))
                self.judged(web, prices, (((1, thing),), ()))
                self.judged(web, prices, (((thing, LEFT[1]),), ()))

    def test_spoilt_bounds(self):
        web = (5, ((0, 1), (1, 2), (1, 3), (3, 4)))
        for bound in (((), ((0, 1, 2), (4, 7, 3))), (((1, ("apart", (0,), 0, 2)), (3, ("apart", (4,), 4, 0))), ()),
                      (((1, ("apart", (0,), 0, 2)),), ((4, 2, 1),))):
            self.told(True, right_bound, web, (3,) * 5, bound)
            for thing in samples.spoilt(bound):
                self.judged(web, (3,) * 5, thing)

    def test_somewhat_beyond_the_bounds(self):
        sures = tuple((p, ("apart", tuple(range(p)), 0, 64)) for p in range(1, 64))
        self.told(True, right_bound, way(65), (2000,) * 65, (sures, ()))


class LeastPrice(Asking):

    def test_nothing(self):
        self.told(0, least_price, (1, 1, 1), ((), ()))

    def test_a_worth_that_is_a_whole_number(self):
        self.told(2, least_price, (1,) * 4, ((LEFT, RIGHT), ()))
        self.told(7, least_price, (2, 3, 4, 5), ((LEFT, RIGHT), ()))
        self.told(5, least_price, (9, 3, 4, 5), ((LEFT,), ((3, 2, 1),)))
        self.told(1, least_price, (1,) * 3, ((), ((0, 1, 2), (1, 1, 2))))
        self.told(20, least_price, (1,) * 60, ((), tuple((p, 1, 3) for p in range(60))))

    def test_a_worth_that_is_no_whole_number(self):
        self.told(2, least_price, (1,) * 5, ((), tuple((p, 1, 3) for p in range(5))))
        self.told(1, least_price, (1,) * 5, ((), ((0, 1, HUGE),)))
        self.told(2, least_price, (1,) * 5, ((), ((0, 1, HUGE), (4, 1, 1))))
        self.told(4, least_price, (9, 3, 4, 5), ((LEFT,), ((3, 1, 2),)))
        self.told(5, least_price, (9, 3, 4, 5), ((LEFT,), ((3, 3, 2),)))

    def test_by_fractions(self):
        for web in judges.small_webs() + judges.great_webs():
            n = web[0]
            for prices in judges.price_rows(n):
                must = musts(web)
                for k in range(1, 6):
                    sures = tuple((p, 0) for p in must[::k])
                    shares = tuple((p, 1 + k * p, 1 + k * p * (p + 1)) for p in range(0, n, k))
                    worth = judges.worth(prices, must[::k], shares)
                    self.told(math.ceil(worth), least_price, prices, (sures, shares))

    def test_long_fractions(self):
        shares = tuple((p, HUGE + p, 10 ** 100 - 1 - p) for p in range(60))
        self.told(math.ceil(judges.worth((7,) * 60, (), shares)), least_price, (7,) * 60, ((), shares))

    def test_no_busy_set_costs_less(self):
        some = (None, (1, 3), (1, 2), (1, 1), (2, 1))
        for web in list(samples.all_webs(3)) + [way(4), star(4, 1), ring(4), (4, ((0, 1), (0, 2), (1, 2), (2, 3)))]:
            n = web[0]
            sures = bound_of(web, (1,) * n)[0]
            for prices in ((1,) * n, (2, 1, 3, 2)[:n]):
                least = judges.least_kept(web, prices, (), ())
                for sure in judges.choices(sures):
                    self.none_less(web, prices, sure, some, least)

    def none_less(self, web, prices, sures, some, least):
        for k in range(len(some) ** web[0]):
            marks = [some[k // len(some) ** p % len(some)] for p in range(web[0])]
            bound = (sures, tuple((p,) + mark for p, mark in enumerate(marks) if mark))
            if right_bound(web, prices, bound):
                self.assertLessEqual(least_price(prices, bound), least, (web, prices, bound))


class BoundOf(Asking):

    def is_bound_of(self, web, prices):
        bound = self.ask(bound_of, web, prices)
        self.assertTrue(judges.is_bound(web, prices, bound), (web, prices, bound))
        self.assertIs(right_bound(web, prices, bound), True)
        must = tuple(place for place, why in bound[0])
        self.assertEqual(must, musts(web))
        shares = judges.raised_by_ones(web, prices, must, (), range(web[0]))
        least = self.ask(least_price, prices, bound)
        self.assertGreaterEqual(least, judges.worth(prices, must, shares), (web, prices, bound))
        return least

    def test_where_the_sures_tell_all(self):
        for web, prices, least in ((way(60), (1,) * 60, 58), (star(60, 9), (1,) * 60, 1), (way(3), (5, 6, 7), 6),
                                   (comb(30), (1000,) * 60, 30000)):
            self.assertEqual(self.is_bound_of(web, prices), least)

    def test_where_the_shares_tell_all(self):
        for web, prices, least in ((full(20), (7,) * 20, 7), (ring(3), (1,) * 3, 1), (full(5), (4, 3, 9, 8, 7), 3)):
            self.assertEqual(self.is_bound_of(web, prices), least)

    def test_both(self):
        # 1 and 3 must be busy, and 5, in a ring of 3 to 6, asks for one of 4, 5 and 6.
        web = (7, ((0, 1), (1, 2), (1, 3), (3, 4), (3, 6), (4, 5), (5, 6)))
        self.assertEqual(musts(web), (1, 3))
        self.assertEqual(self.is_bound_of(web, (1,) * 7), 3)

    def test_no_busy_set_costs_less(self):
        for web in judges.tiny_webs() + judges.small_webs():
            for prices in judges.price_rows(web[0]):
                least = judges.least_kept(web, prices, (), ())
                self.assertLessEqual(self.is_bound_of(web, prices), least, (web, prices))

    def test_twelve_and_thirteen_places(self):
        for web in judges.webs_of(12) + [way(13), ring(13), full(13), judges.mixed(13, 2)]:
            least = judges.least_kept(web, (1,) * web[0], (), ())
            self.assertLessEqual(self.is_bound_of(web, (1,) * web[0]), least, web)
            self.is_bound_of(web, judges.price_rows(web[0])[2])

    def test_sixty_places(self):
        for web in judges.great_webs():
            self.is_bound_of(web, (1,) * 60)
            self.is_bound_of(web, tuple(1 + p * 7 % 9 for p in range(60)))
        self.assertGreaterEqual(self.is_bound_of(ring(60), (1,) * 60), 20)

    def test_somewhat_beyond_the_bounds(self):
        self.assertEqual(self.is_bound_of(way(65), (2000,) * 65), 126000)
        self.assertEqual(self.is_bound_of(full(3), (0, 0, 0)), 0)


if __name__ == "__main__":
    unittest.main()

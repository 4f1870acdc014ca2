"""The cheapest tree of those that keep wishes, with cases for one less (point 36)."""

import unittest

from manyleaves.cases import right_cases
from manyleaves.dear import cheapest_tree, right_cheapest
from manyleaves.errors import NoSet, TooGreat

import judges
import samples
from samples import Asking, comb, full, ladder, most_ties, ring, star, way

HUGE = 10 ** 99
THIN = ("thin",)


def least_price(web, prices, wishes):
    """The least price of all trees that keep the wishes, gone through one by one, None where there is none."""
    busy = [judges.busy_in(web[0], tree) for tree in judges.trees_of(web)]
    return min([judges.price(prices, some) for some in busy if not set(some) & set(wishes)], default=None)


class CheapestTree(Asking):

    def met(self, web, prices, wishes):
        """See to it that a tree that keeps the wishes is told with cases for one less; tell its price."""
        pair = self.ask(cheapest_tree, web, prices, wishes)
        tree, cases = pair
        self.assertTrue(samples.is_tree(web, tree), (web, prices, wishes, tree))
        self.assertLessEqual(set(wishes), set(judges.ends_of(web[0], tree)), (web, prices, wishes, tree))
        price = judges.price(prices, judges.busy_in(web[0], tree))
        self.told(True, right_cases, web, prices, (), wishes, price - 1, cases)
        self.assertTrue(judges.is_best(web, prices, wishes, pair), (web, prices, wishes))
        self.told(True, right_cheapest, web, prices, wishes, pair)
        return price

    def answered(self, web, prices, wishes):
        """See to it that a question is answered as all trees tell."""
        least = least_price(web, prices, wishes)
        if least is None:
            self.refused(NoSet, cheapest_tree, web, prices, wishes)
        else:
            self.assertEqual(self.met(web, prices, wishes), least, (web, prices, wishes))

    def test_ordinary(self):
        for web, prices, wishes, price in (
            (way(5), (9, 1, 2, 3, 9), (), 6), (full(5), (5, 4, 3, 2, 1), (), 1), (full(5), (5, 4, 3, 2, 1), (3, 4), 3),
            (ring(5), (1, 2, 3, 4, 5), (), 6), (ring(5), (1, 2, 3, 4, 5), (0,), 9),
            (comb(3), (1, 2, 3, 9, 9, 9), (), 6),
            (star(9, 4), (7,) * 9, (0, 1, 2), 7), (ladder(3), (1, 9, 1, 1, 9, 1), (), 11),
            (ladder(3), (9, 9, 1, 9, 9, 1), (), 18), (ladder(3), (1, 9, 1, 1, 9, 1), (0, 3), 18),
        ):
            self.assertEqual(self.met(web, prices, wishes), price)

    def test_few_dear_busy_places_or_many_cheap_ones(self):
        web = (6, tuple(sorted(star(6, 5)[1] + way(5)[1])))
        self.assertEqual(self.met(web, (1, 1, 1, 1, 1, 2), ()), 2)
        self.assertEqual(self.met(web, (1, 1, 1, 1, 1, 4), ()), 3)
        self.assertEqual(self.met(web, (1, 1, 1, 1, 1, 4), (2,)), 4)

    def test_wishes_that_cannot_be_kept(self):
        for web, wishes in ((way(3), (1,)), (way(3), (0, 1, 2)), (full(3), (0, 1, 2)), (ring(6), (0, 3)),
                            (star(12), (0,)), (comb(6), (5,)), (ring(12), (0, 2))):
            for prices in judges.price_rows(web[0]):
                self.refused(NoSet, cheapest_tree, web, prices, wishes)

    def test_twelve_places_and_thirteen(self):
        for web in judges.webs_of(12):
            for prices in judges.price_rows(12):
                least = judges.least_kept(web, prices, (), ())
                self.assertEqual(self.met(web, prices, ()), least)
        for web in (way(13), ring(13), star(13), full(13), comb(7), judges.mixed(13, 3), way(60), most_ties(200)):
            for wishes in ((), (0,), (1,), tuple(range(web[0]))):
                self.refused(TooGreat, cheapest_tree, web, (1,) * web[0], wishes)

    def test_against_all_trees_of_small_webs(self):
        for web in judges.tiny_webs()[::2] + judges.small_webs():
            n = web[0]
            if len(judges.trees_of(web)) < 20000:
                for prices in judges.price_rows(n)[::2] + [tuple(1 + (p * 7 + 3) % 5 for p in range(n))]:
                    for wishes in judges.some_wishes(n):
                        self.answered(web, prices, wishes)

    def test_all_wishes_of_small_webs(self):
        for web in list(samples.all_webs(4))[::4] + [judges.STUCK, ring(5)]:
            for wishes in judges.choices(range(web[0])):
                self.answered(web, (2, 1, 3, 2, 1)[:web[0]], wishes)

    def test_somewhat_beyond_the_bounds(self):
        self.assertEqual(self.met(way(5), (0, 2000, 3000, 4000, 0), ()), 9000)
        self.assertEqual(self.met(full(4), (0, 0, 0, 0), (1,)), 0)


class RightCheapest(Asking):

    def judged(self, web, prices, wishes, thing):
        self.told(judges.is_best(web, prices, wishes, thing), right_cheapest, web, prices, wishes, thing)

    def test_ordinary(self):
        shares = ("shares", ((1, 2, 1),))
        self.told(True, right_cheapest, full(3), (3, 2, 4), (), (star(3, 1)[1], shares))
        self.told(False, right_cheapest, full(3), (3, 2, 4), (), (star(3, 0)[1], shares))
        self.told(True, right_cheapest, full(3), (3, 2, 4), (0, 2), (star(3, 1)[1], shares))
        self.told(False, right_cheapest, full(3), (3, 2, 4), (1,), (star(3, 1)[1], shares))
        self.told(True, right_cheapest, full(3), (3, 2, 4), (1,), (star(3, 0)[1], ("shares", ((0, 3, 1),))))
        self.told(False, right_cheapest, full(3), (3, 2, 4), (), (star(3, 0)[1], ("shares", ((0, 3, 1),))))

    def test_thin_tells_of_prices_of_1_alone(self):
        self.told(True, right_cheapest, ring(5), (1,) * 5, (), (way(5)[1], THIN))
        self.told(False, right_cheapest, ring(5), (2,) * 5, (), (way(5)[1], THIN))
        self.told(False, right_cheapest, ring(5), (1, 1, 1, 1, 2), (), (way(5)[1], THIN))

    def test_sixty_places(self):
        self.told(True, right_cheapest, way(60), (1,) * 60, (0, 59), (way(60)[1], THIN))
        self.told(False, right_cheapest, way(60), (1,) * 60, (30,), (way(60)[1], THIN))
        shares = ("shares", ((9, 5, 1),))
        self.told(True, right_cheapest, star(60, 7), (9,) * 7 + (5,) + (9,) * 52, (), (star(60, 7)[1], shares))
        self.told(False, right_cheapest, star(60, 7), (9,) * 7 + (6,) + (9,) * 52, (), (star(60, 7)[1], shares))
        # Each place of the way in the comb must be busy, and all of them together are over the limit.
        for last, right in ((("over",), True), (THIN, False), (("shares", ()), True), (("bare", 0), False)):
            cases = last
            for place in range(30):
                cases = ("part", place, cases, ("apart", (place + 30,), place + 30, (place + 1) % 30))
            self.told(right, right_cheapest, comb(30), (7,) * 60, (), (comb(30)[1], cases))

    def test_no_tree_or_no_cases(self):
        self.told(True, right_cheapest, ring(5), (1,) * 5, (), (way(5)[1], THIN))
        for thing in judges.no_pairs(way(5)[1], THIN):
            self.told(False, right_cheapest, ring(5), (1,) * 5, (), thing)

    def test_all_trees_of_small_webs_with_the_told_cases(self):
        for web in judges.tiny_webs()[::2] + judges.small_webs()[:9]:
            n = web[0]
            for prices in judges.price_rows(n)[::2]:
                for wishes in ((), (n - 1,), (0, 1)):
                    least = least_price(web, prices, wishes)
                    if least is not None:
                        self.just_the_cheapest(web, prices, wishes, least)

    def just_the_cheapest(self, web, prices, wishes, least):
        cases = cheapest_tree(web, prices, wishes)[1]
        for tree in judges.some_trees(web, 12):
            busy = judges.busy_in(web[0], tree)
            right = not set(busy) & set(wishes) and judges.price(prices, busy) == least
            self.told(right, right_cheapest, web, prices, wishes, (tree, cases))

    def test_refuses_nothing(self):
        for web in (way(3), full(12), full(13), way(60), most_ties(200)):
            everything = tuple(range(web[0]))
            tree = samples.some_tree(web)
            for wishes in ((), everything, (1,)):
                for thing in (None, (tree, None), (tree, ("over",)), (tree, THIN), (tree, ("bare", 0))):
                    self.assertIn(self.ask(right_cheapest, web, (2,) * web[0], wishes, thing), (True, False))
        # With all barred there is a why, but no tree keeps such wishes.
        self.told(False, right_cheapest, full(13), (1,) * 13, tuple(range(13)), (star(13)[1], ("bare", 0)))

    def test_anything(self):
        for web, prices in ((way(4), (1,) * 4), (full(3), (3, 2, 4)), (most_ties(200), (2,) * 60)):
            tree = samples.some_tree(web)
            for thing in samples.odd_things() + samples.great_things():
                for pair in (thing, (thing, THIN), (tree, thing), (tree, THIN, thing), (tree, ("part", 0, thing, THIN)),
                             (tree, ("shares", thing)), ((thing,), THIN)):
                    self.judged(web, prices, (), pair)

    def test_spoilt_pairs(self):
        for web, prices, wishes, pair in (
            (way(4), (1,) * 4, (0,), (way(4)[1], ("part", 1, THIN, ("bare", 0)))),
            (way(4), (1,) * 4, (), (way(4)[1], ("part", 1, THIN, ("apart", (0,), 0, 3)))),
            (full(3), (3, 2, 4), (), (star(3, 1)[1], ("shares", ((1, 2, 1),)))),
        ):
            self.told(True, right_cheapest, web, prices, wishes, pair)
            for thing in samples.spoilt(pair):
                self.judged(web, prices, wishes, thing)

    def test_places_beyond_the_web(self):
        for p in (-1, 4, 60, HUGE, -HUGE):
            self.told(False, right_cheapest, way(4), (1,) * 4, (), (((0, 1), (1, 2), (2, p)), THIN))
            self.told(False, right_cheapest, way(4), (1,) * 4, (), (way(4)[1], ("part", p, THIN, THIN)))

    def test_somewhat_beyond_the_bounds(self):
        self.told(True, right_cheapest, way(65), (1,) * 65, (), (way(65)[1], THIN))


if __name__ == "__main__":
    unittest.main()

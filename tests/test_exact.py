"""The cheapest busy set, with cases for one less (point 17)."""

import itertools
import unittest

from manyleaves.cases import right_cases
from manyleaves.errors import NoSet, TooGreat
from manyleaves.exact import cheapest_set

import judges
import samples
from samples import Asking, comb, full, ladder, most_ties, ring, star, way


class CheapestSet(Asking):

    def met(self, web, prices, held, barred):
        """See to it that a busy set that keeps the state is told with cases for one less; tell its price."""
        busy, cases = self.ask(cheapest_set, web, prices, held, barred)
        self.assertTrue(judges.is_busy_set(web, busy), (web, prices, held, barred, busy))
        self.assertEqual(judges.keeping([busy], held, barred), [busy], (web, prices, held, barred))
        price = judges.price(prices, busy)
        self.told(True, right_cases, web, prices, held, barred, price - 1, cases)
        self.told(False, right_cases, web, prices, held, barred, price, cases)
        self.assertTrue(judges.is_cases(web, prices, held, barred, price - 1, cases), (web, prices, held, barred))
        return price

    def answered(self, web, prices, held, barred):
        """See to it that a question is answered as all busy sets tell."""
        least = judges.least_kept(web, prices, held, barred)
        if least is None:
            self.refused(NoSet, cheapest_set, web, prices, held, barred)
        else:
            self.assertEqual(self.met(web, prices, held, barred), least, (web, prices, held, barred))

    def test_ordinary(self):
        for web, prices, price in ((way(3), (1,) * 3, 1), (way(5), (1, 2, 3, 4, 5), 9), (ring(5), (1, 1, 1, 9, 9), 3),
                                   (ring(5), (9, 1, 1, 1, 9), 3), (full(9), (9, 8, 7, 6, 5, 6, 7, 8, 9), 5),
                                   (ladder(3), (1,) * 6, 2), (comb(4), (1000,) * 8, 4000), (star(9, 4), (7,) * 9, 7)):
            self.assertEqual(self.met(web, prices, (), ()), price)

    def test_the_set_where_there_is_one_alone(self):
        for web, prices, busy in ((way(5), (1,) * 5, (1, 2, 3)), (full(5), (5, 4, 3, 4, 5), (2,)),
                                  (comb(3), (1,) * 6, (0, 1, 2)), (ring(4), (1, 1, 9, 9), (0, 1)),
                                  (ring(4), (1, 9, 9, 1), (0, 3))):
            self.assertEqual(self.ask(cheapest_set, web, prices, (), ())[0], busy)

    def test_many_cheap_places_or_few_dear_ones(self):
        # The middle of the star touches all, and so does the way of the five others.
        web = (6, tuple(sorted(star(6, 5)[1] + way(5)[1])))
        self.assertEqual(self.met(web, (1, 1, 1, 1, 1, 2), (), ()), 2)
        self.assertEqual(self.met(web, (1, 1, 1, 1, 1, 4), (), ()), 3)
        self.assertEqual(self.ask(cheapest_set, web, (1, 1, 1, 1, 1, 4), (), ())[0], (1, 2, 3))

    def test_held_and_barred(self):
        self.assertEqual(self.met(way(4), (1,) * 4, (0,), ()), 3)
        self.assertEqual(self.met(way(4), (1,) * 4, (0, 3), ()), 4)
        self.assertEqual(self.met(ring(6), (1,) * 6, (0,), (1,)), 4)
        self.assertEqual(self.met(full(4), (1, 2, 3, 4), (), (0, 1)), 3)
        self.assertEqual(self.met(full(4), (1, 2, 3, 4), (3,), (0, 1)), 4)
        self.assertEqual(self.met(full(4), (1, 2, 3, 4), (0, 1, 2, 3), ()), 10)
        self.assertEqual(self.met(full(4), (1, 2, 3, 4), (2,), (0, 1, 3)), 3)

    def test_no_busy_set_keeps_the_state(self):
        for web, held, barred in ((way(4), (), (1,)), (way(4), (0, 2, 3), (1,)), (ring(6), (), (0, 3)),
                                  (way(3), (), (0, 1)), (full(3), (), (0, 1, 2)), (star(12), (), (0,)),
                                  (comb(6), (), (5, 11)), (ring(12), (1,), (0, 2))):
            for prices in judges.price_rows(web[0]):
                self.refused(NoSet, cheapest_set, web, prices, held, barred)

    def test_twelve_places_and_thirteen(self):
        for web in (way(12), ring(12), star(12), full(12)):
            self.met(web, (1,) * 12, (), ())
        for web in (way(13), ring(13), star(13), full(13), judges.mixed(13, 3), comb(7), way(60), most_ties(200)):
            n = web[0]
            for prices in judges.price_rows(n):
                self.refused(TooGreat, cheapest_set, web, prices, (), ())
            self.refused(TooGreat, cheapest_set, web, (1,) * n, tuple(range(n)), ())

    def test_too_great_is_told_ahead_of_no_set(self):
        for web in (way(13), ring(13), star(13), full(13), way(60)):
            everything = tuple(range(web[0]))
            self.refused(TooGreat, cheapest_set, web, (1,) * web[0], (), everything)
            self.refused(TooGreat, cheapest_set, web, (1,) * web[0], (0,), everything[1:])
        self.refused(NoSet, cheapest_set, way(12), (1,) * 12, (), (5,))
        self.refused(TooGreat, cheapest_set, way(13), (1,) * 13, (), (5,))

    def test_all_states_of_small_webs(self):
        for web in judges.tiny_webs()[::2]:
            n = web[0]
            for prices in ((1,) * n, (2, 1, 3, 2, 1)[:n]):
                for held, barred in judges.some_states(n, 1 if n < 5 else 4):
                    self.answered(web, prices, held, barred)

    def test_states_of_webs_of_three_to_nine_places(self):
        for web in judges.small_webs():
            for prices in judges.price_rows(web[0]):
                for held, barred in judges.some_states(web[0], 1 + 3 ** web[0] // 15):
                    self.answered(web, prices, held, barred)

    def test_states_of_webs_of_ten_to_twelve_places(self):
        for web in judges.webs_of(10) + [judges.mixed(11, 2), ring(11)] + judges.webs_of(12):
            n = web[0]
            for prices in judges.price_rows(n)[::3]:
                for held, barred in (((), ()), ((0,), ()), ((n - 1,), (0,)), ((), (0, n - 1)), ((2, n - 2), (1,))):
                    self.answered(web, prices, held, barred)

    def test_twelve_places_in_time(self):
        # Thin webs of no plain form and prices that are nearly alike ask for the most parts.
        for k in range(30):
            ties = set(ring(12)[1]) | {tie for tie in full(12)[1] if (tie[0] * 7 + tie[1] * (k + 2)) % 17 < 1 + k // 6}
            web = (12, tuple(sorted(ties)))
            for prices in ((1,) * 12, (2,) * 12, tuple(900 + (p * p * (k + 1)) % 97 for p in range(12))):
                busy, cases = cheapest_set(web, prices, (), ())
                self.assertIs(right_cases(web, prices, (), (), judges.price(prices, busy) - 1, cases), True)

    def test_nothing_is_parted_where_shares_or_thinness_tell_it(self):
        for web, prices in ((full(12), (1,) * 12), (full(12), tuple(range(7, 19))), (star(12), (5,) * 12)):
            self.assertEqual(self.ask(cheapest_set, web, prices, (), ())[1][0], "shares")
        for web in (way(12), ring(12), comb(6)):
            self.assertEqual(self.ask(cheapest_set, web, (1,) * 12, (), ())[1], ("thin",))
        self.assertEqual(self.ask(cheapest_set, ring(12), (2,) * 12, tuple(range(10)), ())[1], ("over",))

    def test_equal_however_often_it_is_asked(self):
        first = [cheapest_set(web, (1,) * web[0], (), ()) for web in judges.small_webs()]
        for asked in range(2):
            again = [cheapest_set(web, (1,) * web[0], (), ()) for web in judges.small_webs()[::-1]]
            self.assertEqual(repr(again[::-1]), repr(first))

    def test_a_tie_more_never_makes_it_dearer(self):
        for n, k in itertools.product((5, 7), range(4)):
            web = judges.mixed(n, k)
            price = self.met(web, (1,) * n, (), ())
            for tie in full(n)[1]:
                if tie not in web[1]:
                    more = (n, tuple(sorted(web[1] + (tie,))))
                    self.assertLessEqual(self.met(more, (1,) * n, (), ()), price, (web, tie))

    def test_renamed_webs_have_the_same_price(self):
        for web in judges.small_webs():
            n = web[0]
            names = tuple(sorted(range(n), key=lambda p: (p * 5 + 2) % (n + 1)))
            ties = tuple(sorted(tuple(sorted((names[a], names[b]))) for a, b in web[1]))
            prices = judges.price_rows(n)[2]
            led = tuple(prices[names.index(p)] for p in range(n))
            self.assertEqual(self.met(web, prices, (), ()), self.met((n, ties), led, (), ()))

    def test_somewhat_beyond_the_bounds(self):
        self.assertEqual(self.met(way(5), (0, 2000, 3000, 4000, 0), (), ()), 9000)
        self.assertEqual(self.met(full(4), (0, 0, 0, 0), (), ()), 0)
        self.assertEqual(self.met(full(4), (0, 0, 0, 0), (), (1, 2)), 0)
        self.assertEqual(self.met((2, ((0, 1),)), (3, 2), (), ()), 2)


if __name__ == "__main__":
    unittest.main()

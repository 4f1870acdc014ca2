"""Shares, their worth, and how they are raised (points 9, 13 and 14)."""

import itertools
import math
import unittest
from fractions import Fraction

from manyleaves.shares import raised, right_shares, worth_of

import judges
import samples
from samples import Asking, full, ladder, most_ties, ring, star, way

HUGE = 10 ** 99


class RightShares(Asking):

    def judged(self, web, prices, held, barred, thing):
        self.told(judges.is_shares(web, prices, held, barred, thing), right_shares, web, prices, held, barred, thing)

    def test_ordinary(self):
        self.told(True, right_shares, way(4), (1, 1, 1, 1), (), (), ((0, 1, 1), (3, 1, 1)))
        self.told(True, right_shares, ring(5), (1,) * 5, (), (), tuple((p, 1, 3) for p in range(5)))
        self.told(False, right_shares, ring(5), (1,) * 5, (), (), tuple((p, 1, 2) for p in range(5)))
        self.told(True, right_shares, ladder(4), tuple(range(1, 9)), (0,), (7,), ((2, 2, 1), (6, 1, 1)))
        self.told(False, right_shares, ladder(4), tuple(range(1, 9)), (0,), (7,), ((2, 2, 1), (6, 3, 2)))

    def test_sixty_places(self):
        thirds = tuple((p, 1, 3) for p in range(60))
        self.told(True, right_shares, ring(60), (1,) * 60, (), (), thirds)
        self.told(False, right_shares, ring(60), (1,) * 60, (), (), ((0, 1, 2),) + thirds[1:])
        self.told(True, right_shares, star(60), (60,) * 60, (), (), tuple((p, 1, 1) for p in range(60)))
        self.told(False, right_shares, star(60), (59,) * 60, (), (), tuple((p, 1, 1) for p in range(60)))
        self.told(True, right_shares, star(60), (1000,) * 60, (), (), ((59, 1000, 1),))

    def test_no_shares(self):
        for web in judges.small_webs() + judges.great_webs():
            for held, barred in itertools.islice(judges.some_states(web[0], 1), 5):
                self.told(True, right_shares, web, (1,) * web[0], held, barred, ())

    def test_just_at_the_price_and_one_more(self):
        prices = (1000, 7, 1000, 1000)
        self.told(True, right_shares, way(4), prices, (), (), ((0, 7, 1),))
        self.told(False, right_shares, way(4), prices, (), (), ((0, 8, 1),))
        self.told(False, right_shares, way(4), prices, (), (), ((0, 15, 2),))
        self.told(True, right_shares, way(4), prices, (), (), ((0, 4, 1), (1, 2, 1), (2, 1, 1)))
        self.told(False, right_shares, way(4), prices, (), (), ((0, 4, 1), (1, 2, 1), (2, 2, 1)))
        self.told(True, right_shares, way(4), prices, (), (), ((0, 7, 2), (2, 7, 2)))
        self.told(False, right_shares, way(4), prices, (), (), ((0, 7, 2), (2, 11, 3)))
        self.told(True, right_shares, way(4), (1,) * 4, (), (), ((0, HUGE - 1, HUGE), (2, 1, HUGE)))
        self.told(False, right_shares, way(4), (1,) * 4, (), (), ((0, HUGE - 1, HUGE), (2, 3, HUGE)))
        self.told(False, right_shares, way(4), (1,) * 4, (), (), ((0, HUGE + 1, HUGE),))

    def test_each_place_of_the_lot_counts(self):
        for place, price in itertools.product(range(3), (1, 2)):
            prices = samples.put_in((3, 3, 3), place, price)
            self.told(True, right_shares, way(3), prices, (), (), ((1, price, 1),))
            self.told(False, right_shares, way(3), prices, (), (), ((1, price + 1, 1),))
        self.told(True, right_shares, way(3), (9, 9, 1), (), (), ((0, 9, 1),))

    def test_a_lot_with_a_held_place(self):
        self.told(False, right_shares, way(4), (5,) * 4, (0,), (), ((0, 1, 1),))
        self.told(False, right_shares, way(4), (5,) * 4, (1,), (), ((0, 1, 1),))
        self.told(False, right_shares, way(4), (5,) * 4, (0,), (), ((1, 1, 9),))
        self.told(True, right_shares, way(4), (5,) * 4, (0,), (), ((2, 1, 1),))
        self.told(False, right_shares, star(60), (5,) * 60, (0,), (), ((59, 1, 1),))
        self.told(False, right_shares, way(4), (5,) * 4, (3,), (0, 1), ((0, 1, 1), (2, 1, 1)))

    def test_barred_places_bound_nothing(self):
        self.told(False, right_shares, way(4), (1, 9, 9, 9), (), (), ((0, 9, 1),))
        self.told(True, right_shares, way(4), (1, 9, 9, 9), (), (0,), ((0, 9, 1),))
        self.told(False, right_shares, way(4), (1, 9, 9, 9), (), (0,), ((0, 10, 1),))
        self.told(True, right_shares, way(4), (1, 1, 9, 9), (), (1,), ((2, 9, 1),))

    def test_a_lot_all_of_which_is_barred(self):
        for top, bottom in ((1, 1), (1000000, 1), (1, HUGE), (10 ** 100 - 1, 1), (HUGE + 1, HUGE)):
            self.told(True, right_shares, way(4), (1,) * 4, (), (0, 1), ((0, top, bottom),))
            self.told(True, right_shares, way(4), (1,) * 4, (), (0, 1, 2, 3), ((0, top, bottom), (2, top, bottom)))
        self.told(False, right_shares, way(4), (1,) * 4, (), (0, 1), ((1, 2, 1),))
        self.told(False, right_shares, way(4), (1,) * 4, (), (0, 1), ((0, 2, 2),))

    def test_all_barred(self):
        for web in judges.small_webs() + judges.great_webs():
            n = web[0]
            rows = tuple((p, 7 + p, 1) for p in range(n))
            self.told(True, right_shares, web, (1,) * n, (), tuple(range(n)), rows)
            self.told(False, right_shares, web, (1,) * n, (), tuple(range(n)), rows[::-1])

    def test_many_long_fractions(self):
        rows = tuple((p, HUGE + p, 10 ** 100 - 1 - p) for p in range(60) if math.gcd(HUGE + p, 10 ** 100 - 1 - p) == 1)
        self.assertGreater(len(rows), 20)
        for price in (1, 2, 6, 7, 1000):
            self.judged(star(60), (price,) * 60, (), (), rows)
            self.judged(ring(60), (price,) * 60, (), (), rows)

    def test_not_in_lowest_terms(self):
        for top, bottom in ((2, 2), (2, 4), (6, 4), (3, 3), (10, 5), (HUGE, HUGE), (2 * HUGE, 10 ** 50)):
            self.told(False, right_shares, way(4), (1000,) * 4, (), (), ((0, top, bottom),))
            self.told(False, right_shares, way(4), (1000,) * 4, (), (0, 1), ((0, top, bottom),))

    def test_tops_and_bottoms_below_1(self):
        for top, bottom in ((0, 1), (1, 0), (0, 0), (-1, 1), (1, -1), (-1, -1), (-HUGE, 1), (1, -HUGE), (-3, -2)):
            self.told(False, right_shares, way(4), (1000,) * 4, (), (), ((0, top, bottom),))
            self.told(False, right_shares, way(4), (1000,) * 4, (), (0, 1), ((0, top, bottom),))

    def test_rows_out_of_order_or_twice(self):
        for rows in (((3, 1, 1), (0, 1, 1)), ((0, 1, 1), (0, 1, 1)), ((0, 1, 1), (0, 2, 1)), ((0, 1, 3), (0, 1, 2)),
                     ((0, 1, 1), (3, 1, 1), (2, 1, 1))):
            self.told(False, right_shares, way(4), (1000,) * 4, (), (), rows)
            self.told(False, right_shares, way(4), (1000,) * 4, (), (0, 1, 2, 3), rows)

    def test_places_beyond_the_web(self):
        for p in (-1, 4, 60, HUGE, -HUGE):
            self.told(False, right_shares, way(4), (1000,) * 4, (), (), ((p, 1, 1),))
            self.told(False, right_shares, way(4), (1000,) * 4, (), (0, 1, 2, 3), ((p, 1, 1),))

    def test_true_and_false_are_no_ints(self):
        for row in ((False, 1, 1), (True, 1, 1), (0, True, 1), (0, 1, True), (0, True, True), (0, False, 1),
                    (0, 2, True)):
            self.told(False, right_shares, way(4), (1000,) * 4, (), (), (row,))

    def test_too_short_or_too_long(self):
        for row in ((), (0,), (0, 1), (0, 1, 1, 1), (0, (1, 1)), (0, (1, 1), 1)):
            self.told(False, right_shares, way(4), (1000,) * 4, (), (), (row,))
        self.told(False, right_shares, way(4), (1000,) * 4, (), (), (0, 1, 1))

    def test_nothing_stands_for_a_tuple(self):
        for thing in ([(0, 1, 1)], ([0, 1, 1],), {(0, 1, 1): 0}, ({0: 0, 1: 1, 2: 1},), ("011",), "", [], {}, None,
                      False, 0, ((0, "1", 1),), ((0, 1, None),), (((0,), 1, 1),), ((0, 1, [1]),)):
            self.told(False, right_shares, way(4), (1000,) * 4, (), (), thing)

    def test_all_shares_of_three_places(self):
        some = (None, (1, 2), (1, 1), (3, 2), (2, 1))
        for web in samples.all_webs(3):
            for prices in ((1, 1, 1), (1, 2, 3), (2, 1, 2)):
                for held, barred in judges.all_states(3):
                    for marks in itertools.product(some, repeat=3):
                        rows = tuple((p,) + mark for p, mark in enumerate(marks) if mark)
                        wanted = judges.is_shares(web, prices, held, barred, rows)
                        self.assertIs(right_shares(web, prices, held, barred, rows), wanted, (web, held, barred, rows))

    def test_shares_of_webs_of_three_to_nine_places(self):
        some = (None, (1, 3), (1, 1), None, (5, 2), (1, 2), (2, 3))
        for web in judges.small_webs():
            n = web[0]
            for prices in judges.price_rows(n):
                for at, (held, barred) in enumerate(judges.some_states(n, 1 + 3 ** n // 60)):
                    marks = [(p, some[(p * p + at * (p + 3)) % 7]) for p in range(n)]
                    self.judged(web, prices, held, barred, tuple((p,) + mark for p, mark in marks if mark))
                    free = [(p, mark) for p, mark in marks if not judges.lot(web, p) & set(held)]
                    self.judged(web, prices, held, barred, tuple((p,) + mark for p, mark in free if mark))

    def test_anything(self):
        for web, held, barred in ((way(3), (), ()), (way(3), (), (0, 1, 2)), (most_ties(200), (5,), (1, 59))):
            prices = (1,) * web[0]
            for thing in samples.odd_things() + samples.great_things() + [((0, HUGE + 1, HUGE),) * 24999]:
                self.judged(web, prices, held, barred, thing)
                self.judged(web, prices, held, barred, (thing,))
                self.judged(web, prices, held, barred, ((thing, 1, 1),))
                self.judged(web, prices, held, barred, ((2, thing, 1),))
                self.judged(web, prices, held, barred, ((2, 1, thing),))

    def test_spoilt_shares(self):
        for web, held, barred, rows in ((way(4), (), (), ((0, 1, 1), (2, 1, 2), (3, 1, 2))),
                                        (full(3), (), (), ((1, 1, 1),)), (ring(6), (0,), (3,), ((2, 2, 3), (4, 1, 3)))):
            self.told(True, right_shares, web, (2,) * web[0], held, barred, rows)
            for thing in samples.spoilt(rows):
                self.judged(web, (2,) * web[0], held, barred, thing)

    def test_somewhat_beyond_the_bounds(self):
        self.told(True, right_shares, way(65), (2000,) * 65, (), (), ((0, 2000, 1), (64, 2000, 1)))
        self.told(False, right_shares, way(65), (2000,) * 65, (), (), ((0, 2001, 1),))
        self.told(False, right_shares, way(3), (0, 0, 0), (), (), ((0, 1, HUGE),))


class WorthOf(Asking):

    def test_nothing(self):
        self.told((0, 1), worth_of, (1, 1, 1), (), ())
        self.told((0, 1), worth_of, (1000,) * 60, (), ())

    def test_held_places_alone(self):
        self.told((1003, 1), worth_of, (3, 7, 1000), (0, 2), ())
        self.told((60000, 1), worth_of, (1000,) * 60, tuple(range(60)), ())

    def test_shares_alone(self):
        self.told((2, 1), worth_of, (1,) * 4, (), ((0, 1, 1), (3, 1, 1)))
        self.told((1, 3), worth_of, (1,) * 4, (), ((0, 1, 3),))
        self.told((5, 3), worth_of, (1,) * 5, (), tuple((p, 1, 3) for p in range(5)))
        self.told((20, 1), worth_of, (1,) * 60, (), tuple((p, 1, 3) for p in range(60)))

    def test_both(self):
        self.told((15, 2), worth_of, (7, 5, 5, 5), (0,), ((2, 1, 3), (3, 1, 6)))
        self.told((1001, 1), worth_of, (1000, 5, 5, 5), (0,), ((2, 1, 3), (3, 2, 3)))

    def test_in_lowest_terms(self):
        self.told((1, 1), worth_of, (1,) * 4, (), ((0, 1, 2), (3, 1, 2)))
        self.told((1, 2), worth_of, (1,) * 4, (), ((0, 1, 6), (3, 1, 3)))
        self.told((2, 3), worth_of, (1,) * 4, (), ((0, 1, 6), (2, 1, 3), (3, 1, 6)))

    def test_long_fractions(self):
        rows = tuple((p, HUGE + 1, HUGE) for p in range(30)) + tuple((p, 1, 10 ** 100 - p) for p in range(30, 60))
        total = 5 + sum(Fraction(top, bottom) for p, top, bottom in rows)
        self.told((total.numerator, total.denominator), worth_of, (5,) * 60, (7,), rows)

    def test_by_fractions(self):
        for n in (3, 5, 9, 60):
            for prices in judges.price_rows(n):
                for k in range(12):
                    held = tuple(p for p in range(n) if (p * k + p) % 5 == 1)
                    some = [(p, Fraction(1 + p * k % 6, 1 + (p + k) % 7)) for p in range(n) if (p + k) % 3]
                    total = Fraction(sum(prices[p] for p in held)) + sum(share for p, share in some)
                    rows = tuple((p, share.numerator, share.denominator) for p, share in some)
                    self.told((total.numerator, total.denominator), worth_of, prices, held, rows)

    def test_no_busy_set_costs_less(self):
        some = (None, (1, 3), (1, 2), (1, 1), (2, 1))
        for web in list(samples.all_webs(3)) + [way(4), ring(4), star(4), (4, ((0, 1), (0, 2), (1, 2), (2, 3)))]:
            n = web[0]
            sets = judges.busy_sets(web)
            for prices in ((1,) * n, (2, 1, 3, 2)[:n]):
                for held, barred in judges.all_states(n):
                    kept = judges.keeping(sets, held, barred)
                    least = min([sum(prices[p] for p in busy) for busy in kept], default=None)
                    if least is not None:
                        self.none_less(web, prices, held, barred, some, least)

    def none_less(self, web, prices, held, barred, some, least):
        for marks in itertools.islice(itertools.product(some, repeat=web[0]), 0, None, 3):
            rows = tuple((p,) + mark for p, mark in enumerate(marks) if mark)
            if right_shares(web, prices, held, barred, rows):
                top, bottom = worth_of(prices, held, rows)
                self.assertLessEqual(top, least * bottom, (web, prices, held, barred, rows))


class Raised(Asking):

    def test_way_of_sixty(self):
        ones = (1,) * 60
        up = tuple(range(60))
        self.told(tuple((p, 1, 1) for p in range(0, 60, 3)), raised, way(60), ones, (), (), up)
        self.told(tuple((p, 1, 1) for p in range(2, 60, 3)), raised, way(60), ones, (), (), up[::-1])
        self.told(tuple((p, 1000, 1) for p in range(0, 60, 3)), raised, way(60), (1000,) * 60, (), (), up)

    def test_star_of_sixty(self):
        prices = (7,) + (1000,) * 59
        self.told(((0, 7, 1),), raised, star(60), prices, (), (), tuple(range(60)))
        self.told(((59, 7, 1),), raised, star(60), prices, (), (), tuple(range(59, -1, -1)))
        ends = tuple(range(1, 60))
        self.told(tuple((p, 1000, 1) for p in ends), raised, star(60), prices, (), (0,), ends + (0,))
        self.told(((0, 1000, 1),), raised, star(60), prices, (), (0,), (0,) + ends)
        self.told((), raised, star(60), prices, (0,), (), tuple(range(60)))

    def test_ordinary(self):
        self.told(((0, 3, 1), (3, 4, 1)), raised, way(4), (3, 3, 5, 4), (), (), (0, 1, 2, 3))
        self.told(((1, 3, 1), (3, 2, 1)), raised, way(4), (3, 3, 5, 4), (), (), (1, 0, 2, 3))
        self.told(((0, 1, 1), (2, 4, 1)), raised, way(4), (2, 5, 9, 4), (), (), (2, 3, 0, 1))

    def test_a_share_of_0_has_no_row(self):
        self.told(((1, 1, 1),), raised, way(3), (1, 1, 1), (), (), (1, 0, 2))
        self.told(((0, 1, 1),), raised, full(5), (1,) * 5, (), (), (0, 1, 2, 3, 4))
        self.told(((4, 1, 1),), raised, full(5), (1,) * 5, (), (), (4, 3, 2, 1, 0))

    def test_held_places(self):
        self.told(((2, 1, 1),), raised, way(4), (1,) * 4, (0,), (), (0, 1, 2, 3))
        self.told((), raised, way(4), (1,) * 4, (0, 3), (), (0, 1, 2, 3))
        self.told((), raised, way(4), (1,) * 4, (0, 1, 2, 3), (), (0, 1, 2, 3))

    def test_barred_places(self):
        self.told(((0, 9, 1), (3, 1, 1)), raised, way(4), (1, 9, 9, 1), (), (0,), (0, 1, 2, 3))
        self.told(((1, 1, 1), (3, 1, 1)), raised, way(4), (1,) * 4, (), (2,), (3, 2, 1, 0))

    def test_a_lot_all_of_which_is_barred_has_no_row(self):
        self.told(((1, 5, 1),), raised, way(4), (5,) * 4, (), (0, 1), (0, 1, 2, 3))
        for web in judges.small_webs() + judges.great_webs():
            everything = tuple(range(web[0]))
            self.told((), raised, web, (1000,) * web[0], (), everything, everything)

    def test_all_orders_and_states_of_small_webs(self):
        for web in list(samples.all_webs(3)) + [way(4), star(4, 1), (4, ((0, 1), (0, 2), (1, 2), (2, 3)))]:
            n = web[0]
            sets = judges.busy_sets(web)
            for order in itertools.islice(itertools.permutations(range(n)), 0, None, n - 2):
                for held, barred in judges.all_states(n):
                    self.is_raised(web, (2, 1, 3, 2)[:n], held, barred, order, sets)

    def test_webs_of_three_to_nine_places(self):
        for web in judges.small_webs():
            n = web[0]
            sets = judges.busy_sets(web)
            orders = [tuple(range(n)), tuple(range(n))[::-1]]
            orders.append(tuple(sorted(range(n), key=lambda p: (p * p + 3 * p) % 7)))
            for prices, order in itertools.product(judges.price_rows(n)[2:], orders):
                for held, barred in judges.some_states(n, 1 + 3 ** n // 25):
                    self.is_raised(web, prices, held, barred, order, sets)

    def is_raised(self, web, prices, held, barred, order, sets):
        rows = self.ask(raised, web, prices, held, barred, order)
        self.assertEqual(repr(rows), repr(judges.raised_by_ones(web, prices, held, barred, order)))
        self.assertIs(right_shares(web, prices, held, barred, rows), True)
        top, bottom = worth_of(prices, held, rows)
        self.assertEqual(bottom, 1)
        for busy in judges.keeping(sets, held, barred):
            self.assertLessEqual(top, sum(prices[p] for p in busy), (web, prices, held, barred, order))

    def test_webs_of_sixty_places(self):
        prices = tuple(1 + p * 7 % 9 for p in range(60))
        order = tuple(p * 7 % 60 for p in range(60))
        for web in judges.great_webs():
            for held, barred in (((), ()), ((4, 31), (0, 1, 2, 30)), ((), tuple(range(20))),
                                 ((59,), tuple(range(1, 59)))):
                self.is_raised(web, prices, held, barred, order, ())

    def test_somewhat_beyond_the_bounds(self):
        self.told(((0, 2000, 1),), raised, way(3), (2000, 2000, 3000), (), (), (0, 1, 2))
        self.told((), raised, way(3), (0, 0, 0), (), (), (0, 1, 2))


if __name__ == "__main__":
    unittest.main()

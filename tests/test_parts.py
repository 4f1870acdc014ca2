"""What the files share: places, lots, states, prices and fractions (points 9 and 10)."""

import math
import unittest
from fractions import Fraction

from manyleaves import parts
from manyleaves.webs import check_web

import judges
from samples import Asking, full, great_things, odd_things, spoilt, star, way


class Webs(Asking):

    def test_the_webs_that_the_tests_go_through_are_webs(self):
        for web in judges.tiny_webs() + judges.small_webs() + judges.great_webs():
            self.told(None, check_web, web)


class Places(Asking):

    def test_a_place(self):
        for thing in (0, 1, 2):
            self.told(True, parts.is_place, way(3), thing)
        for thing in (-1, 3, 10 ** 99, True, False, None, "0", (0,), [0]):
            self.told(False, parts.is_place, way(3), thing)

    def test_rows_of_places(self):
        for thing in judges.choices(range(5)):
            self.told(True, parts.is_place_row, way(5), thing)
        for thing in ((0, 0), (1, 0), (0, 5), (-1, 0), (True,), (0, True), [0], {0: 0}, "0", None):
            self.told(False, parts.is_place_row, way(5), thing)

    def test_anything(self):
        for web in (way(3), full(20), star(60)):
            for thing in odd_things() + great_things() + list(spoilt((0, 1, 2))):
                self.told(judges.is_places(web[0], thing), parts.is_place_row, web, thing)

    def test_common_places(self):
        self.told(True, parts.have_common, (0, 1), (1, 2))
        self.told(False, parts.have_common, (0, 1), (2, 3))
        self.told(False, parts.have_common, (), (2, 3))
        self.told(False, parts.have_common, (0, 1), ())


class States(Asking):

    def test_the_lot_of_a_place(self):
        for web in judges.small_webs() + judges.great_webs():
            rows = parts.lot_rows(web)
            for place in range(web[0]):
                self.assertEqual(sorted(rows[place]), sorted(judges.lot(web, place)))

    def test_places_but_some(self):
        self.told((1, 3), parts.places_but, way(5), (0, 2, 4))
        self.told((0, 1, 2), parts.places_but, way(3), ())
        self.told((), parts.places_but, way(3), (0, 1, 2))

    def test_free_places(self):
        self.told((0, 1, 2), parts.free_places, way(3), (), ())
        self.told((1,), parts.free_places, way(5), (0, 4), (2, 3))
        self.told((), parts.free_places, way(3), (1,), (0, 2))
        self.told(tuple(range(1, 59)), parts.free_places, way(60), (59,), (0,))

    def test_one_place_more(self):
        self.told((3,), parts.with_place, (), 3)
        self.told((0, 2, 5), parts.with_place, (2, 5), 0)
        self.told((2, 3, 5), parts.with_place, (2, 5), 3)
        self.told((2, 5, 59), parts.with_place, (2, 5), 59)


class Same(Asking):

    def test_just_what_is_told(self):
        for told in (0, 1, 10 ** 99, (), (0, 1), ((0, 1), (1, 2), 3), (((0,), 1), (), 2)):
            self.told(True, parts.is_same, told, told)

    def test_anything_else(self):
        told = ((0, 1), (1, 2), 3)
        for thing in list(spoilt(told)) + odd_things() + great_things():
            self.told(repr(thing) == repr(told), parts.is_same, told, thing)
        for told, thing in ((1, True), (0, False), ((), []), ((), ""), ((0,), (False,)), ((0, 1), (0, 1, 2)), (0, ()),
                            ((), 0), ((0, 1), (0,)), ((), None), (1, "1"), ((1,), [1])):
            self.told(False, parts.is_same, told, thing)


class Numbers(Asking):

    def test_price_of_places(self):
        self.told(0, parts.price_of, (5, 7, 1000), ())
        self.told(1005, parts.price_of, (5, 7, 1000), (0, 2))
        self.told(60000, parts.price_of, (1000,) * 60, tuple(range(60)))

    def test_greatest_that_divides_both(self):
        for one in range(40):
            for other in range(1, 40):
                self.told(math.gcd(one, other), parts.common_part, one, other)
        self.told(10 ** 50, parts.common_part, 10 ** 99, 3 * 10 ** 50)

    def test_fractions_added(self):
        self.told((0, 1), parts.added, [])
        for some in ([(1, 2)], [(1, 2), (1, 3)], [(1, 6), (1, 3), (1, 2)], [(5, 1), (7, 9), (1, 10 ** 99)]):
            top, bottom = self.ask(parts.added, some)
            self.assertEqual(Fraction(top, bottom), sum(Fraction(*one) for one in some))

    def test_lowest_terms(self):
        self.told((0, 1), parts.lowest, 0, 7)
        self.told((2, 3), parts.lowest, 8, 12)
        self.told((5, 1), parts.lowest, 15, 3)
        self.told((3, 10 ** 49), parts.lowest, 3 * 10 ** 50, 10 ** 99)


if __name__ == "__main__":
    unittest.main()

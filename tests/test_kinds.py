"""Webs of a kind (point 23)."""

import unittest

from manyleaves.kinds import made
from manyleaves.webs import check_web

import judges
import samples
from samples import Asking, comb, full, ladder, ring, star, way

LONE = {"way": (way, 3, 60), "ring": (ring, 3, 60), "full": (full, 3, 20), "comb": (comb, 2, 30),
        "ladder": (ladder, 2, 30)}


def all_sides():
    """All pairs of ints that "sides" takes."""
    for a in range(1, 60):
        for b in range(1, 60):
            if 3 <= a + b <= 60 and a * b <= 200:
                yield (a, b)


class Made(Asking):

    def test_way(self):
        self.told((3, ((0, 1), (1, 2))), made, "way", 3, 0)
        self.told((5, ((0, 1), (1, 2), (2, 3), (3, 4))), made, "way", 5, 0)

    def test_ring(self):
        self.told((3, ((0, 1), (0, 2), (1, 2))), made, "ring", 3, 0)
        self.told((5, ((0, 1), (0, 4), (1, 2), (2, 3), (3, 4))), made, "ring", 5, 0)

    def test_full(self):
        self.told((3, ((0, 1), (0, 2), (1, 2))), made, "full", 3, 0)
        self.told((4, ((0, 1), (0, 2), (0, 3), (1, 2), (1, 3), (2, 3))), made, "full", 4, 0)

    def test_sides(self):
        self.told((3, ((0, 1), (0, 2))), made, "sides", 1, 2)
        self.told((3, ((0, 2), (1, 2))), made, "sides", 2, 1)
        self.told((5, ((0, 2), (0, 3), (0, 4), (1, 2), (1, 3), (1, 4))), made, "sides", 2, 3)
        self.told((5, ((0, 3), (0, 4), (1, 3), (1, 4), (2, 3), (2, 4))), made, "sides", 3, 2)

    def test_comb(self):
        self.told((4, ((0, 1), (0, 2), (1, 3))), made, "comb", 2, 0)
        self.told((6, ((0, 1), (0, 3), (1, 2), (1, 4), (2, 5))), made, "comb", 3, 0)

    def test_ladder(self):
        self.told((4, ((0, 1), (0, 2), (1, 3), (2, 3))), made, "ladder", 2, 0)
        self.told((6, ((0, 1), (0, 3), (1, 2), (1, 4), (2, 5), (3, 4), (4, 5))), made, "ladder", 3, 0)

    def test_each_kind_from_its_least_to_its_greatest(self):
        for kind, (web_of, least, most) in LONE.items():
            for n in range(least, most + 1):
                self.told(web_of(n), made, kind, n, 0)
                self.assertIsNone(check_web(made(kind, n, 0)))

    def test_all_sides(self):
        pairs = list(all_sides())
        for a, b in ((1, 2), (2, 1), (1, 59), (59, 1), (4, 50), (50, 4), (10, 20), (20, 10), (3, 57), (14, 14)):
            self.assertIn((a, b), pairs)
        for a, b in pairs:
            self.told(judges.sides(a, b), made, "sides", a, b)
            self.assertIsNone(check_web(made("sides", a, b)))

    def test_the_greatest_have_as_many_ties_as_may_be(self):
        for kind, one, other, places, ties in (
            ("way", 60, 0, 60, 59), ("ring", 60, 0, 60, 60), ("full", 20, 0, 20, 190), ("sides", 10, 20, 30, 200),
            ("sides", 50, 4, 54, 200), ("comb", 30, 0, 60, 59), ("ladder", 30, 0, 60, 88),
        ):
            web = self.ask(made, kind, one, other)
            self.assertEqual((web[0], len(web[1])), (places, ties))

    def test_places_are_told_by_how_many_neighbours_they_have(self):
        for kind, one, other, many in (
            ("way", 7, 0, [1] * 2 + [2] * 5), ("ring", 7, 0, [2] * 7), ("full", 7, 0, [6] * 7),
            ("sides", 3, 5, [3] * 5 + [5] * 3), ("comb", 5, 0, [1] * 5 + [2] * 2 + [3] * 3),
            ("ladder", 5, 0, [2] * 4 + [3] * 6),
        ):
            web = self.ask(made, kind, one, other)
            self.assertTrue(samples.is_web(web))
            self.assertEqual(sorted(len(judges.lot(web, p)) - 1 for p in range(web[0])), many)

    def test_somewhat_beyond_the_bounds(self):
        self.told(way(65), made, "way", 65, 0)
        self.told(ring(61), made, "ring", 61, 0)
        self.told(full(21), made, "full", 21, 0)
        self.told(judges.sides(15, 15), made, "sides", 15, 15)
        self.told((2, ((0, 1),)), made, "sides", 1, 1)
        self.told(comb(31), made, "comb", 31, 0)
        self.told(ladder(31), made, "ladder", 31, 0)
        self.told((2, ((0, 1),)), made, "ladder", 1, 0)
        self.told(star(70), made, "sides", 1, 69)


if __name__ == "__main__":
    unittest.main()

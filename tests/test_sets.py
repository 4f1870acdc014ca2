"""Busy sets and their trees (point 8)."""

import unittest

from manyleaves.sets import right_set, tree_by
from manyleaves.trees import busy_of, leaves_of
from manyleaves.webs import pieces, touched

import judges
import samples
from samples import Asking, comb, few_webs, full, ladder, most_ties, ring, star, way


class RightSet(Asking):

    def judged(self, web, thing):
        self.told(judges.is_busy_set(web, thing), right_set, web, thing)

    def test_ordinary(self):
        self.told(True, right_set, way(5), (1, 2, 3))
        self.told(True, right_set, ring(5), (0, 1, 2))
        self.told(True, right_set, ring(5), (0, 1, 4))
        self.told(True, right_set, ladder(3), (1, 4))
        self.told(True, right_set, comb(4), (0, 1, 2, 3))
        self.told(True, right_set, full(9), (7,))
        self.told(True, right_set, star(9, 4), (4,))

    def test_sixty_places(self):
        self.told(True, right_set, way(60), tuple(range(1, 59)))
        self.told(False, right_set, way(60), tuple(range(1, 58)))
        self.told(False, right_set, way(60), tuple(range(2, 59)))
        self.told(False, right_set, way(60), tuple(range(1, 30)) + tuple(range(31, 59)))
        self.told(True, right_set, ring(60), tuple(range(58)))
        self.told(False, right_set, ring(60), tuple(range(57)))
        self.told(True, right_set, star(60, 59), (59,))
        self.told(False, right_set, star(60, 59), (58,))
        self.told(True, right_set, comb(30), tuple(range(30)))
        self.told(False, right_set, comb(30), tuple(range(29)))
        self.told(False, right_set, comb(30), tuple(range(30, 60)))

    def test_all_places(self):
        for web in few_webs():
            self.told(True, right_set, web, tuple(range(web[0])))

    def test_no_place(self):
        for web in few_webs():
            self.told(False, right_set, web, ())

    def test_not_in_one_lot(self):
        self.told(False, right_set, way(4), (0, 3))
        self.told(False, right_set, ring(6), (0, 3))
        self.told(False, right_set, ring(6), (0, 1, 3, 4))
        self.told(False, right_set, star(4), (1, 2, 3))

    def test_a_place_that_is_not_touched(self):
        self.told(False, right_set, way(4), (1,))
        self.told(False, right_set, way(4), (0, 1))
        self.told(False, right_set, ring(6), (0, 1, 2))
        self.told(False, right_set, star(4), (1,))

    def test_turned_twice_beyond(self):
        self.told(False, right_set, way(4), (2, 1))
        self.told(False, right_set, way(4), (1, 1, 2))
        self.told(False, right_set, way(4), (1, 2, 2))
        self.told(False, right_set, way(4), (1, 2, 4))
        self.told(False, right_set, way(4), (-1, 1, 2))
        self.told(False, right_set, way(4), (1, 2, 10 ** 99))
        self.told(False, right_set, way(4), (-(10 ** 99), 1, 2))

    def test_true_and_false_are_no_places(self):
        self.told(False, right_set, way(3), (True,))
        self.told(False, right_set, star(3), (False,))
        self.told(False, right_set, way(4), (True, 2))
        self.told(False, right_set, full(3), (False, True, 2))

    def test_nothing_stands_for_a_tuple(self):
        self.told(False, right_set, way(3), [1])
        self.told(False, right_set, way(3), {1: 1})
        self.told(False, right_set, way(3), "1")
        self.told(False, right_set, way(3), ((1,),))
        self.told(False, right_set, way(3), ([1],))
        self.told(False, right_set, way(3), ("1",))
        self.told(False, right_set, way(3), (1, None))
        self.told(False, right_set, way(3), 1)

    def test_all_choices_of_small_webs(self):
        for web in judges.tiny_webs() + judges.small_webs():
            for some in judges.choices(range(web[0])):
                self.judged(web, some)

    def test_just_those_that_some_tree_has_as_busy_places(self):
        for web in judges.tiny_webs():
            found = {busy_of(tree) for tree in samples.all_trees(web)}
            for some in found:
                self.told(True, right_set, web, some)
            for some in judges.choices(range(web[0])):
                # A busy set has a tree whose busy places are some of it, and each busy set about them is right, too.
                self.assertEqual(right_set(web, some), any(set(busy) <= set(some) for busy in found), (web, some))

    def test_anything(self):
        for web in (way(3), full(4), most_ties(200)):
            for thing in samples.odd_things() + samples.great_things() + [(0,) * 99999]:
                self.judged(web, thing)

    def test_spoilt_sets(self):
        for web, some in ((way(3), (1,)), (ring(5), (1, 2, 3)), (full(4), (0, 1, 2, 3)), (ladder(3), (1, 4))):
            for thing in samples.spoilt(some):
                self.judged(web, thing)

    def test_somewhat_beyond_the_bounds(self):
        self.told(True, right_set, way(65), tuple(range(1, 64)))
        self.told(True, right_set, full(25), (24,))
        self.told(True, right_set, (2, ((0, 1),)), (1,))


class TreeBy(Asking):

    def is_tree_by(self, web, busy):
        tree = self.ask(tree_by, web, busy)
        self.assertTrue(samples.is_tree(web, tree), (web, busy, tree))
        outside = set(range(web[0])) - set(busy)
        self.assertLessEqual(outside, set(leaves_of(tree)), (web, busy, tree))
        self.assertGreaterEqual(len(leaves_of(tree)), web[0] - len(busy))

    def test_where_there_is_one_alone(self):
        self.told(way(60)[1], tree_by, way(60), tuple(range(1, 59)))
        self.told(star(60, 7)[1], tree_by, star(60, 7), (7,))
        self.told(star(9, 4)[1], tree_by, full(9), (4,))
        self.told(((0, 1), (0, 4), (1, 2), (2, 3)), tree_by, ring(5), (0, 1, 2))

    def test_all_busy_sets_of_small_webs(self):
        for web in judges.tiny_webs() + judges.small_webs():
            for busy in judges.busy_sets(web):
                self.is_tree_by(web, busy)

    def test_all_places(self):
        for web in few_webs():
            self.is_tree_by(web, tuple(range(web[0])))

    def test_one_place(self):
        for n in (3, 4, 9, 20):
            for place in range(n):
                self.told(star(n, place)[1], tree_by, full(n), (place,))

    def test_sixty_places(self):
        self.is_tree_by(ring(60), tuple(range(58)))
        self.is_tree_by(ring(60), (0, 1) + tuple(range(4, 60)))
        self.is_tree_by(comb(30), tuple(range(30)))
        self.is_tree_by(comb(30), tuple(range(0, 47)))
        self.is_tree_by(ladder(30), tuple(range(30)))
        self.is_tree_by(ladder(30), tuple(range(1, 59)))
        for web in judges.great_webs():
            left = tuple(range(web[0]))
            # Places are left out one by one, as long as what is left is a busy set.
            for place in range(web[0]):
                fewer = tuple(p for p in left if p != place)
                if len(pieces(web, fewer)) == 1 and len(fewer) + len(touched(web, fewer)) == web[0]:
                    left = fewer
            self.is_tree_by(web, left)

    def test_somewhat_beyond_the_bounds(self):
        self.is_tree_by(way(65), tuple(range(1, 64)))
        self.told(((0, 1),), tree_by, (2, ((0, 1),)), (1,))


if __name__ == "__main__":
    unittest.main()

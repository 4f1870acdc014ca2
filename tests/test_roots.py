"""Trees told from a root (point 7)."""

import itertools
import unittest

from manyleaves.roots import parents_of, right_parents, tree_of
from manyleaves.trees import way_in

import samples
from samples import Asking, all_trees, few_webs, full, ladder, most_ties, ring, some_tree, star, way


class ParentsOf(Asking):

    def test_way_of_sixty(self):
        self.told((None,) + tuple(range(59)), parents_of, way(60)[1], 0)
        self.told(tuple(range(1, 60)) + (None,), parents_of, way(60)[1], 59)
        self.told((1, 2, None, 2, 3), parents_of, way(5)[1], 2)

    def test_star(self):
        self.told((None, 0, 0, 0), parents_of, star(4)[1], 0)
        self.told((2, 0, None, 0), parents_of, star(4)[1], 2)

    def test_ordinary(self):
        tree = ((0, 1), (0, 4), (1, 2), (2, 3))
        self.told((None, 0, 1, 2, 0), parents_of, tree, 0)
        self.told((1, 2, 3, None, 0), parents_of, tree, 3)

    def test_next_on_the_way_to_the_root(self):
        for tree in list(all_trees(full(5)))[::3] + [some_tree(ladder(4))]:
            places = range(len(tree) + 1)
            for root in places:
                wanted = tuple(None if place == root else way_in(tree, place, root)[1] for place in places)
                self.told(wanted, parents_of, tree, root)

    def test_somewhat_beyond_the_bounds(self):
        self.told((None,) + tuple(range(149)), parents_of, way(150)[1], 0)


class RightParents(Asking):

    def judged(self, web, root, thing):
        self.told(samples.is_parents(web, root, thing), right_parents, web, root, thing)

    def test_ordinary(self):
        self.told(True, right_parents, ring(5), 0, (None, 0, 1, 2, 0))
        self.told(True, right_parents, ring(5), 3, (1, 2, 3, None, 0))
        for web in few_webs():
            for root in (0, web[0] // 2, web[0] - 1):
                self.told(True, right_parents, web, root, parents_of(some_tree(web), root))

    def test_another_root(self):
        self.told(False, right_parents, ring(5), 1, (None, 0, 1, 2, 0))
        self.told(False, right_parents, way(3), 0, (1, None, 1))
        self.told(False, right_parents, way(3), 2, (None, 0, 1))

    def test_a_root_too_many_or_none(self):
        self.told(False, right_parents, way(3), 0, (None, None, 1))
        self.told(False, right_parents, way(3), 0, (None, 0, None))
        self.told(False, right_parents, way(3), 0, (1, 0, 1))
        self.told(False, right_parents, full(3), 0, (2, 0, 1))

    def test_rings(self):
        self.told(False, right_parents, way(3), 0, (None, 2, 1))
        self.told(False, right_parents, full(4), 0, (None, 2, 3, 1))
        self.told(False, right_parents, full(5), 0, (None, 0, 3, 4, 2))
        self.told(False, right_parents, full(4), 0, (None, 1, 0, 0))
        self.told(False, right_parents, way(60), 0, (None,) + tuple(range(58)) + (59,))

    def test_a_tie_that_is_not_the_webs(self):
        self.told(False, right_parents, way(4), 0, (None, 0, 1, 1))
        self.told(False, right_parents, ring(4), 0, (None, 0, 0, 0))

    def test_beyond_the_web(self):
        self.told(False, right_parents, way(3), 0, (None, 0, 3))
        self.told(False, right_parents, way(3), 0, (None, 0, -2))
        self.told(False, right_parents, way(3), 0, (None, 0, 10 ** 99))
        self.told(False, right_parents, way(3), 0, (None, 0, 1, 2))
        self.told(False, right_parents, way(3), 0, (None, 0))
        self.told(False, right_parents, way(3), 0, ())

    def test_true_and_false_are_no_places(self):
        self.told(False, right_parents, way(3), 0, (None, False, 1))
        self.told(False, right_parents, way(3), 0, (None, 0, True))
        self.told(False, right_parents, way(3), 0, (False, 0, 1))

    def test_nothing_stands_for_a_tuple(self):
        self.told(False, right_parents, way(3), 0, [None, 0, 1])
        self.told(False, right_parents, way(3), 0, {0: None, 1: 0, 2: 1})
        self.told(False, right_parents, way(3), 0, "001")
        self.told(False, right_parents, way(3), 0, (None, (0,), 1))
        self.told(False, right_parents, way(3), 0, (None, "0", 1))

    def test_all_rows_of_small_webs(self):
        some = [None, 0, 1, 2, 3, True]
        for web in samples.all_webs(3):
            for thing in itertools.product(some, repeat=3):
                for root in range(3):
                    self.judged(web, root, thing)
        for web in list(samples.all_webs(4))[::4]:
            for thing in itertools.product([None, 0, 1, 2, 3], repeat=4):
                self.judged(web, 2, thing)

    def test_one_for_each_tree(self):
        for web in samples.all_webs(4):
            right = [row for row in itertools.product(range(4), repeat=3) if right_parents(web, 0, (None,) + row)]
            self.assertEqual(len(right), len(list(all_trees(web))))

    def test_anything(self):
        for web in (way(3), full(4), most_ties(200)):
            for thing in samples.odd_things() + samples.great_things():
                self.judged(web, 0, thing)
                self.judged(web, web[0] - 1, thing)

    def test_spoilt_parents(self):
        for web in (way(3), ring(5), full(5), ladder(3)):
            for root in range(web[0]):
                for thing in samples.spoilt(parents_of(some_tree(web), root)):
                    self.judged(web, root, thing)

    def test_somewhat_beyond_the_bounds(self):
        self.told(True, right_parents, ring(65), 0, (None,) + tuple(range(64)))
        self.told(True, right_parents, (2, ((0, 1),)), 1, (1, None))


class TreeOf(Asking):

    def test_ordinary(self):
        self.told(((0, 1), (0, 4), (1, 2), (2, 3)), tree_of, (None, 0, 1, 2, 0))
        self.told(((0, 1), (0, 4), (1, 2), (2, 3)), tree_of, (1, 2, 3, None, 0))
        self.told(way(60)[1], tree_of, tuple(range(1, 60)) + (None,))
        self.told(star(60, 30)[1], tree_of, tuple(None if p == 30 else 30 for p in range(60)))

    def test_the_tree_whose_parents_were_told(self):
        for tree in itertools.chain(all_trees(full(4)), map(some_tree, few_webs())):
            for root in (0, len(tree) // 2, len(tree)):
                self.told(tree, tree_of, parents_of(tree, root))


if __name__ == "__main__":
    unittest.main()

"""Trees (point 6)."""

import itertools
import unittest

from manyleaves.trees import busy_of, leaves_of, right_tree, way_in

import samples
from samples import Asking, all_trees, comb, few_webs, full, ladder, most_ties, ring, some_tree, star, way


class RightTree(Asking):

    def judged(self, web, thing):
        self.told(samples.is_tree(web, thing), right_tree, web, thing)

    def test_ordinary(self):
        web = ring(5)
        self.told(True, right_tree, web, ((0, 1), (0, 4), (1, 2), (2, 3)))
        self.told(True, right_tree, web, ((0, 1), (1, 2), (2, 3), (3, 4)))
        for web in few_webs():
            self.told(True, right_tree, web, some_tree(web))

    def test_a_tie_too_few_or_too_many(self):
        self.told(False, right_tree, ring(5), ((0, 1), (1, 2), (2, 3)))
        self.told(False, right_tree, ring(5), ring(5)[1])
        self.told(False, right_tree, ring(3), ())
        self.told(False, right_tree, way(60), way(60)[1][1:])

    def test_a_ring_leaves_a_place_out(self):
        self.told(False, right_tree, full(4), ((0, 1), (0, 2), (1, 2)))
        self.told(False, right_tree, full(5), ((0, 1), (0, 2), (1, 2), (3, 4)))
        self.told(False, right_tree, ladder(3), ((0, 1), (0, 3), (1, 4), (2, 5), (3, 4)))

    def test_a_tie_that_is_not_the_webs(self):
        self.told(False, right_tree, way(4), ((0, 1), (1, 2), (1, 3)))
        self.told(False, right_tree, ring(4), ((0, 1), (0, 2), (0, 3)))
        self.told(False, right_tree, way(4), ((0, 1), (1, 2), (2, 4)))
        self.told(False, right_tree, way(3), ((-1, 0), (0, 1)))

    def test_turned_twice_out_of_order(self):
        self.told(False, right_tree, way(3), ((1, 0), (1, 2)))
        self.told(False, right_tree, way(3), ((0, 1), (0, 1)))
        self.told(False, right_tree, way(3), ((1, 2), (0, 1)))
        self.told(False, right_tree, full(3), ((0, 2), (0, 1)))

    def test_true_and_false_are_no_places(self):
        self.told(False, right_tree, way(3), ((False, 1), (1, 2)))
        self.told(False, right_tree, way(3), ((0, True), (1, 2)))
        self.told(False, right_tree, way(3), ((0, 1), (True, 2)))

    def test_nothing_stands_for_a_tuple(self):
        self.told(False, right_tree, way(3), [(0, 1), (1, 2)])
        self.told(False, right_tree, way(3), ([0, 1], (1, 2)))
        self.told(False, right_tree, way(3), {(0, 1): 0, (1, 2): 0})
        self.told(False, right_tree, way(3), ("01", "12"))
        self.told(False, right_tree, way(3), ({0: 0, 1: 1}, (1, 2)))

    def test_all_rows_of_ties_of_small_webs(self):
        for web in list(samples.all_webs(4)) + list(samples.all_webs(5))[::19]:
            for k in range(web[0] + 1):
                for some in itertools.combinations(full(web[0])[1], k):
                    self.judged(web, some)

    def test_as_many_as_are_known_of_full_webs(self):
        for n in (3, 4, 5, 6):
            found = [some for some in itertools.combinations(full(n)[1], n - 1) if right_tree(full(n), some)]
            self.assertEqual(len(found), n ** (n - 2))

    def test_anything(self):
        for web in (way(3), full(4), most_ties(200)):
            for thing in samples.odd_things() + samples.great_things():
                self.judged(web, thing)

    def test_spoilt_trees(self):
        for web in (way(3), full(3), ring(5), full(5), ladder(3)):
            for thing in samples.spoilt(some_tree(web)):
                self.judged(web, thing)

    def test_somewhat_beyond_the_bounds(self):
        self.told(True, right_tree, ring(65), way(65)[1])
        self.told(False, right_tree, ring(65), ring(65)[1])
        self.told(True, right_tree, full(25), star(25)[1])
        self.told(True, right_tree, (2, ((0, 1),)), ((0, 1),))


class LeavesAndBusy(Asking):

    def test_way(self):
        self.told((0, 59), leaves_of, way(60)[1])
        self.told(tuple(range(1, 59)), busy_of, way(60)[1])
        self.told((0, 2), leaves_of, way(3)[1])
        self.told((1,), busy_of, way(3)[1])

    def test_star(self):
        self.told(tuple(range(1, 60)), leaves_of, star(60)[1])
        self.told((0,), busy_of, star(60)[1])
        self.told((0, 1, 2, 3, 5), leaves_of, star(6, 4)[1])
        self.told((4,), busy_of, star(6, 4)[1])

    def test_comb(self):
        self.told(tuple(range(30, 60)), leaves_of, comb(30)[1])
        self.told(tuple(range(30)), busy_of, comb(30)[1])

    def test_ordinary(self):
        tree = ((0, 1), (0, 4), (1, 2), (2, 3))
        self.told((3, 4), leaves_of, tree)
        self.told((0, 1, 2), busy_of, tree)

    def test_by_counting_ends(self):
        for tree in itertools.chain(all_trees(full(5)), map(some_tree, few_webs())):
            ends = [place for tie in tree for place in tie]
            self.told(tuple(p for p in range(len(tree) + 1) if ends.count(p) == 1), leaves_of, tree)
            self.told(tuple(p for p in range(len(tree) + 1) if ends.count(p) > 1), busy_of, tree)


class WayIn(Asking):

    def test_ends_of_a_way_of_sixty(self):
        self.told(tuple(range(60)), way_in, way(60)[1], 0, 59)
        self.told(tuple(range(59, -1, -1)), way_in, way(60)[1], 59, 0)
        self.told((0, 1), way_in, way(60)[1], 0, 1)
        self.told((31, 30, 29), way_in, way(60)[1], 31, 29)

    def test_ordinary(self):
        tree = ((0, 1), (0, 4), (1, 2), (2, 3))
        self.told((4, 0, 1, 2), way_in, tree, 4, 2)
        self.told((3, 2, 1, 0), way_in, tree, 3, 0)
        self.told((5, 1, 2, 6), way_in, comb(4)[1], 5, 6)
        self.told((3, 0, 7), way_in, star(9)[1], 3, 7)

    def test_each_two_places(self):
        trees = list(all_trees(full(4))) + list(all_trees(full(5)))[::5] + [some_tree(ladder(4)), comb(6)[1]]
        for tree in trees:
            for one, other in itertools.permutations(range(len(tree) + 1), 2):
                self.is_way(tree, one, other, self.ask(way_in, tree, one, other))

    def is_way(self, tree, one, other, way_told):
        self.assertEqual((way_told[0], way_told[-1]), (one, other))
        self.assertEqual(len(set(way_told)), len(way_told))
        for a, b in zip(way_told, way_told[1:]):
            self.assertIn((min(a, b), max(a, b)), tree)

    def test_somewhat_beyond_the_bounds(self):
        self.told(tuple(range(150)), way_in, way(150)[1], 0, 149)


if __name__ == "__main__":
    unittest.main()

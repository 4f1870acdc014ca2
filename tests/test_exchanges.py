"""Exchanges in a tree, and all their rows (point 19)."""

import unittest

from manyleaves.exchanges import exchanged, rows_of

import judges
import samples
from samples import Asking, comb, far_ties, full, ladder, most_ties, ring, star, way


class Exchanged(Asking):

    def test_ordinary(self):
        self.told(((0, 1), (0, 3), (1, 2)), exchanged, ((0, 1), (1, 2), (2, 3)), (0, 3), (2, 3))
        self.told(((0, 3), (1, 2), (2, 3)), exchanged, ((0, 1), (1, 2), (2, 3)), (0, 3), (0, 1))
        self.told(((0, 1), (0, 2)), exchanged, ((0, 1), (1, 2)), (0, 2), (1, 2))

    def test_sixty_places(self):
        tree = way(60)[1]
        self.told(((0, 1), (0, 59)) + tree[1:58], exchanged, tree, (0, 59), (58, 59))
        self.told(((0, 59),) + tree[1:], exchanged, tree, (0, 59), (0, 1))
        self.told(tuple(sorted(tree[:29] + tree[30:] + ((5, 50),))), exchanged, tree, (5, 50), (29, 30))

    def test_each_row_leaves_a_tree_with_its_leaves(self):
        for web in judges.tiny_webs() + judges.small_webs():
            for tree in judges.some_trees(web, 6):
                for put, taken, leaves in rows_of(web, tree):
                    left = self.ask(exchanged, tree, put, taken)
                    self.assertTrue(samples.is_tree(web, left), (web, tree, put, taken))
                    self.assertEqual(set(left), (set(tree) | {put}) - {taken})
                    self.assertEqual(len(judges.ends_of(web[0], left)), leaves, (web, tree, put, taken))

    def test_and_back(self):
        for web in judges.small_webs():
            for tree in judges.some_trees(web, 3):
                for put, taken, leaves in rows_of(web, tree):
                    self.told(tree, exchanged, exchanged(tree, put, taken), taken, put)

    def test_somewhat_beyond_the_bounds(self):
        tree = way(65)[1]
        self.told(((0, 64),) + tree[1:], exchanged, tree, (0, 64), (0, 1))


class RowsOf(Asking):

    def judged(self, web, tree):
        rows = self.ask(rows_of, web, tree)
        self.assertEqual(repr(rows), repr(judges.rows(web, tree)), (web, tree))
        return rows

    def test_ordinary(self):
        tie = (0, 3)
        self.told(((tie, (0, 1), 2), (tie, (1, 2), 2), (tie, (2, 3), 2)), rows_of, ring(4), way(4)[1])
        self.told((((0, 2), (0, 1), 2), ((0, 2), (1, 2), 2)), rows_of, full(3), way(3)[1])
        web = (4, ((0, 1), (0, 2), (1, 2), (2, 3)))
        self.told((((0, 2), (0, 1), 3), ((0, 2), (1, 2), 2)), rows_of, web, ((0, 1), (1, 2), (2, 3)))
        self.told((((0, 1), (0, 2), 2), ((0, 1), (1, 2), 2)), rows_of, web, ((0, 2), (1, 2), (2, 3)))

    def test_ties_that_share_both_one_or_no_end(self):
        # The leaves are 0, 5, 6 and 7; 0 and 5 get a tie, and the ends of the taken one lose one.
        tree = ((0, 1), (1, 2), (1, 6), (2, 3), (2, 7), (3, 4), (4, 5))
        web = (8, tuple(sorted(tree + ((0, 5),))))
        rows = (((0, 5), (0, 1), 3), ((0, 5), (1, 2), 2), ((0, 5), (2, 3), 3), ((0, 5), (3, 4), 4), ((0, 5), (4, 5), 4))
        self.told(rows, rows_of, web, tree)

    def test_a_tree_that_is_its_web_has_none(self):
        for web in (way(3), way(60), star(9, 4), star(60), comb(4), comb(30)):
            self.told((), rows_of, web, web[1])

    def test_all_trees_of_small_webs(self):
        for web in judges.tiny_webs():
            for tree in judges.some_trees(web, 25):
                self.judged(web, tree)

    def test_webs_of_three_to_ten_places(self):
        for web in judges.small_webs() + [judges.mixed(10, 3), ladder(5), ring(10)]:
            for tree in judges.some_trees(web, 8):
                self.judged(web, tree)

    def test_twelve_and_thirteen_places(self):
        for web in judges.webs_of(12) + [ring(13), full(13), judges.mixed(13, 2)]:
            self.judged(web, samples.some_tree(web))
            self.judged(web, samples.some_tree((web[0], web[1][::-1]))[::-1])

    def test_sixty_places_and_two_hundred_ties(self):
        for web in (far_ties(200), most_ties(200)):
            self.assertGreater(len(self.judged(web, way(60)[1])), 3500)
            self.judged(web, samples.some_tree(web))
        self.assertEqual(len(self.judged(ring(60), way(60)[1])), 59)
        self.judged(ladder(30), samples.some_tree(ladder(30)))

    def test_no_tree_is_left_out(self):
        for web in judges.tiny_webs():
            trees = judges.trees_of(web)
            for tree in judges.some_trees(web, 5):
                near = {other for other in trees if len(set(other) & set(tree)) == web[0] - 2}
                self.assertEqual({exchanged(tree, put, taken) for put, taken, leaves in rows_of(web, tree)}, near)

    def test_somewhat_beyond_the_bounds(self):
        self.judged(ring(65), way(65)[1])
        self.told((), rows_of, (2, ((0, 1),)), ((0, 1),))


if __name__ == "__main__":
    unittest.main()

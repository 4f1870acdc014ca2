"""Climbing by exchanges that help, and trees that are stopped (point 20)."""

import unittest

from manyleaves.climbing import climbed, right_stopped
from manyleaves.exchanges import rows_of

import judges
import samples
from judges import STUCK, STUCK_TREE
from samples import Asking, comb, far_ties, full, ladder, most_ties, ring, star, way

HUGE = 10 ** 99


class Climbed(Asking):

    def judged(self, web, tree):
        """See to it that just what the words of the document tell is done; tell how many leaves there are then."""
        done, stopped = self.ask(climbed, web, tree)
        self.assertEqual(repr((done, stopped)), repr(judges.climb(web, tree)), (web, tree))
        ahead = len(judges.ends_of(web[0], tree))
        for row in done:
            self.assertGreater(row[2], ahead)
            ahead = row[2]
        self.assertTrue(samples.is_tree(web, stopped))
        self.assertEqual(len(judges.ends_of(web[0], stopped)), ahead)
        self.assertIs(right_stopped(web, stopped, rows_of(web, stopped)), True)
        return ahead

    def test_ordinary(self):
        web = (4, ((0, 1), (0, 2), (1, 2), (2, 3)))
        self.told(((((0, 2), (0, 1), 3),), ((0, 2), (1, 2), (2, 3))), climbed, web, way(4)[1])

    def test_several_rows(self):
        rows = (((0, 2), (0, 1), 3), ((2, 4), (2, 3), 4))
        self.told((rows, ((0, 2), (1, 2), (2, 4), (3, 4), (4, 5))), climbed, full(6), way(6)[1])
        self.assertEqual(self.judged(full(6), way(6)[1]), 4)

    def test_a_tree_that_is_stopped_stays(self):
        for web, tree in ((way(60), way(60)[1]), (star(60), star(60)[1]), (full(9), star(9, 3)[1]),
                          (comb(4), comb(4)[1]), (ring(60), way(60)[1]), (STUCK, STUCK_TREE)):
            self.told(((), tree), climbed, web, tree)

    def test_small_webs(self):
        for web in judges.tiny_webs():
            for tree in judges.some_trees(web, 25):
                self.judged(web, tree)

    def test_webs_of_three_to_ten_places(self):
        for web in judges.small_webs() + [judges.mixed(10, 3), ladder(5), ring(10)]:
            for tree in judges.some_trees(web, 6):
                self.judged(web, tree)

    def test_twelve_and_thirteen_places(self):
        for web in judges.webs_of(12) + [ring(13), full(13), judges.mixed(13, 2)]:
            self.judged(web, samples.some_tree(web))
            self.judged(web, tuple(sorted(samples.some_tree((web[0], web[1][::-1])))))

    def test_sixty_places(self):
        for web in (way(60), ring(60), comb(30), ladder(30), judges.mixed(60, 7)):
            self.judged(web, tuple(sorted(samples.some_tree((60, web[1][::-1])))))

    def test_sixty_places_and_two_hundred_ties_from_a_way(self):
        for web in (most_ties(200), far_ties(200)):
            done, tree = self.ask(climbed, web, way(60)[1])
            self.assertGreater(len(done), 10)
            self.assertTrue(samples.is_tree(web, tree))
            self.assertEqual(sorted({row[2] for row in done}), [row[2] for row in done])
            self.assertEqual(done[0], [row for row in judges.rows(web, way(60)[1]) if row[2] > 2][0])
            self.assertEqual(done[-1][2], len(judges.ends_of(60, tree)))
            self.assertEqual([row for row in judges.rows(web, tree) if row[2] > done[-1][2]], [])

    def test_no_tree_has_more_than_14_times_the_leaves_less_20(self):
        for web in judges.tiny_webs() + judges.small_webs()[:10]:
            most = max(len(judges.ends_of(web[0], tree)) for tree in judges.trees_of(web))
            for tree in judges.some_trees(web, 10):
                leaves = len(judges.ends_of(web[0], climbed(web, tree)[1]))
                self.assertLessEqual(most, 14 * leaves - 20, (web, tree))

    def test_somewhat_beyond_the_bounds(self):
        self.told(((), way(65)[1]), climbed, way(65), way(65)[1])
        self.told(((), ((0, 1),)), climbed, (2, ((0, 1),)), ((0, 1),))


class RightStopped(Asking):

    def judged(self, web, tree, thing):
        rows = judges.rows(web, tree)
        none_helps = all(row[2] <= len(judges.ends_of(web[0], tree)) for row in rows)
        # repr tells True from 1, and a list from a tuple.
        self.told(none_helps and repr(thing) == repr(rows), right_stopped, web, tree, thing)

    def test_a_tree_that_is_stopped(self):
        for web, tree in ((ring(4), way(4)[1]), (full(9), star(9, 3)[1]), (ring(60), way(60)[1]), (STUCK, STUCK_TREE),
                          (most_ties(200), star(60)[1])):
            self.told(True, right_stopped, web, tree, judges.rows(web, tree))

    def test_a_tree_that_is_not(self):
        for web, tree in ((full(4), way(4)[1]), (full(9), way(9)[1]), (most_ties(200), way(60)[1]),
                          ((4, ((0, 1), (0, 2), (1, 2), (2, 3))), way(4)[1])):
            rows = judges.rows(web, tree)
            self.told(False, right_stopped, web, tree, rows)
            kept = tuple(row for row in rows if row[2] <= len(judges.ends_of(web[0], tree)))
            self.told(False, right_stopped, web, tree, kept)
            self.told(False, right_stopped, web, tree, tuple((put, taken, 2) for put, taken, leaves in rows))
            self.told(False, right_stopped, web, tree, ())

    def test_the_last_row_alone_helps(self):
        # Only putting in the last tie of the web helps, and only for the last tie on the way.
        web = (6, ((0, 1), (0, 2), (0, 3), (3, 4), (3, 5), (4, 5)))
        tree = ((0, 1), (0, 2), (0, 3), (3, 4), (4, 5))
        rows = judges.rows(web, tree)
        self.assertEqual([row[2] for row in rows], [3, 4])
        self.told(False, right_stopped, web, tree, rows)
        self.told(False, right_stopped, web, tree, rows[:1])

    def test_a_tree_that_is_its_web(self):
        for web in (way(3), way(60), star(60), comb(30)):
            self.told(True, right_stopped, web, web[1], ())
            for thing in ([], {}, "", None, 0, False, True, ((),), (None,), (((0, 1), (0, 1), 2),)):
                self.told(False, right_stopped, web, web[1], thing)

    def test_rows_left_out_twice_exchanged_or_wrong(self):
        for web, tree in ((ring(4), way(4)[1]), (full(5), star(5, 2)[1]), (ring(60), way(60)[1]), (STUCK, STUCK_TREE)):
            rows = judges.rows(web, tree)
            self.told(True, right_stopped, web, tree, rows)
            for at, (put, taken, leaves) in enumerate(rows):
                for thing in (rows[:at] + rows[at + 1:], rows[:at + 1] + rows[at:], rows[at:], rows[:at],
                              rows[:at] + ((put, taken, leaves + 1),) + rows[at + 1:],
                              rows[:at] + ((put, taken, leaves - 1),) + rows[at + 1:],
                              rows[:at] + ((taken, put, leaves),) + rows[at + 1:],
                              rows[:at] + ((put[::-1], taken, leaves),) + rows[at + 1:],
                              rows[:at] + ((put, taken[::-1], leaves),) + rows[at + 1:],
                              rows[:at] + ((put, taken),) + rows[at + 1:],
                              rows[:at] + ((put, taken, leaves, leaves),) + rows[at + 1:],
                              rows[:at] + (rows[at - 1], rows[at]) + rows[at + 1:]):
                    if thing != rows:
                        self.told(False, right_stopped, web, tree, thing)
                if at:
                    self.told(False, right_stopped, web, tree, rows[:at - 1] + (rows[at], rows[at - 1]) + rows[at + 1:])
            self.told(False, right_stopped, web, tree, rows[::-1])
            self.told(False, right_stopped, web, tree, rows + rows)
            self.told(False, right_stopped, web, tree, (rows,))

    def test_true_and_false_are_no_ints(self):
        rows = judges.rows(STUCK, STUCK_TREE)
        for old, new in (((0, 2), (False, 2)), ((1, 2), (True, 2)), ((0, 1), (0, True)), ((0, 1), (False, True))):
            spoilt = tuple((new if put == old else put, new if taken == old else taken, k) for put, taken, k in rows)
            self.assertEqual(spoilt, rows)
            self.assertNotEqual(repr(spoilt), repr(rows))
            self.told(False, right_stopped, STUCK, STUCK_TREE, spoilt)

    def test_nothing_stands_for_a_tuple(self):
        rows = judges.rows(ring(4), way(4)[1])
        for thing in (list(rows), dict(enumerate(rows)), tuple(map(list, rows)), str(rows), ([*rows[0]],) + rows[1:],
                      tuple(([*put], taken, k) for put, taken, k in rows), {row: 0 for row in rows},
                      tuple((put, [*taken], k) for put, taken, k in rows),
                      tuple((put, taken, [k]) for put, taken, k in rows),
                      tuple((put, taken, str(k)) for put, taken, k in rows)):
            self.told(False, right_stopped, ring(4), way(4)[1], thing)

    def test_all_rows_of_all_trees_of_small_webs(self):
        for web in judges.tiny_webs():
            for tree in judges.some_trees(web, 25):
                rows = judges.rows(web, tree)
                self.judged(web, tree, rows)
                self.judged(web, tree, rows[1:])
                self.judged(web, tree, ())

    def test_webs_of_three_to_ten_places(self):
        for web in judges.small_webs() + [judges.mixed(10, 3)]:
            for tree in judges.some_trees(web, 5):
                for some in (tree, climbed(web, tree)[1]):
                    self.judged(web, some, judges.rows(web, some))

    def test_the_rows_of_another_tree(self):
        web = full(5)
        for place in range(5):
            for other in range(5):
                rows = judges.rows(web, star(5, other)[1])
                self.told(place == other, right_stopped, web, star(5, place)[1], rows)

    def test_anything(self):
        for web, tree in ((way(3), way(3)[1]), (ring(4), way(4)[1]), (most_ties(200), star(60)[1])):
            rows = judges.rows(web, tree)
            for thing in samples.odd_things() + samples.great_things():
                self.told(repr(thing) == repr(rows), right_stopped, web, tree, thing)
                self.told(False, right_stopped, web, tree, (thing,))
            for thing in samples.odd_things():
                for more in (rows + (thing,), (thing,) + rows[1:], ((thing, (0, 1), 2),) + rows[1:],
                             (((0, 3), thing, 2),) + rows[1:], (((0, 3), (0, 1), thing),) + rows[1:]):
                    self.told(repr(more) == repr(rows), right_stopped, web, tree, more)

    def test_spoilt_rows(self):
        for web, tree in ((ring(4), way(4)[1]), (full(3), way(3)[1])):
            rows = judges.rows(web, tree)
            for thing in samples.spoilt(rows):
                self.told(repr(thing) == repr(rows), right_stopped, web, tree, thing)

    def test_places_beyond_the_web(self):
        rows = judges.rows(ring(4), way(4)[1])
        for p in (-1, 4, 60, HUGE, -HUGE):
            self.told(False, right_stopped, ring(4), way(4)[1], rows + (((0, p), (0, 1), 2),))
            self.told(False, right_stopped, ring(4), way(4)[1], (((0, p), (0, 1), 2),) + rows[1:])
            self.told(False, right_stopped, ring(4), way(4)[1], (((0, 3), (p, 1), 2),) + rows[1:])
            self.told(False, right_stopped, ring(4), way(4)[1], (((0, 3), (0, 1), p),) + rows[1:])

    def test_sixty_places_and_two_hundred_ties(self):
        for web in (most_ties(200), far_ties(200)):
            tree = climbed(web, way(60)[1])[1]
            rows = judges.rows(web, tree)
            self.told(True, right_stopped, web, tree, rows)
            self.told(False, right_stopped, web, tree, rows[:-1])
            self.told(False, right_stopped, web, tree, rows[:-1] + (rows[-1][:2] + (rows[-1][2] - 1,),))
            self.told(False, right_stopped, web, way(60)[1], judges.rows(web, way(60)[1]))


if __name__ == "__main__":
    unittest.main()

"""The tree with the most leaves of those that keep wishes, with cases for one busy place less (point 18)."""

import unittest

from manyleaves.cases import right_cases
from manyleaves.errors import NoSet, TooGreat
from manyleaves.exact import cheapest_set
from manyleaves.most import most_leaves, right_most
from manyleaves.whys import right_why, why_not

import judges
import samples
from samples import Asking, comb, full, ladder, most_ties, ring, star, way

HUGE = 10 ** 99
THIN = ("thin",)


def most_of_all(web, wishes):
    """The most leaves of all trees that keep the wishes, gone through one by one, None where there is none."""
    ends = [judges.ends_of(web[0], tree) for tree in judges.trees_of(web)]
    return max([len(some) for some in ends if set(wishes) <= set(some)], default=None)


class MostLeaves(Asking):

    def met(self, web, wishes):
        """See to it that a tree that keeps the wishes is told with cases for one less; tell its leaves."""
        pair = self.ask(most_leaves, web, wishes)
        tree, cases = pair
        n = web[0]
        self.assertTrue(samples.is_tree(web, tree), (web, wishes, tree))
        leaves = judges.ends_of(n, tree)
        self.assertLessEqual(set(wishes), set(leaves), (web, wishes, tree))
        self.told(True, right_cases, web, (1,) * n, (), wishes, n - len(leaves) - 1, cases)
        self.told(False, right_cases, web, (1,) * n, (), wishes, n - len(leaves), cases)
        self.assertTrue(judges.is_best(web, (1,) * n, wishes, pair), (web, wishes))
        self.told(True, right_most, web, wishes, pair)
        return len(leaves)

    def answered(self, web, wishes):
        """See to it that a question is answered as all trees tell."""
        most = most_of_all(web, wishes)
        if most is None:
            self.refused(NoSet, most_leaves, web, wishes)
        else:
            self.assertEqual(self.met(web, wishes), most, (web, wishes))

    def test_ordinary(self):
        for web, wishes, leaves in (
            (way(3), (), 2), (way(5), (), 2), (ring(5), (), 2), (ring(12), (), 2), (full(9), (), 8),
            (star(9, 4), (), 8),
            (comb(4), (), 4), (ladder(2), (), 2), (ladder(3), (), 4), (ladder(4), (), 4), (ladder(6), (), 6),
            (ring(5), (0,), 2), (ring(5), (0, 1), 2), (full(9), tuple(range(8)), 8), (ladder(3), (1,), 3),
            (judges.STUCK, (), 4), (judges.STUCK, (2, 3), 4),
        ):
            self.assertEqual(self.met(web, wishes), leaves, (web, wishes))

    def test_wishes_that_cannot_be_kept(self):
        for web, wishes in ((way(3), (1,)), (way(3), (0, 1, 2)), (full(3), (0, 1, 2)), (ring(6), (0, 3)),
                            (star(12), (0,)), (comb(6), (5,)), (ring(12), (0, 2)), (judges.STUCK, (0,)),
                            (ring(5), (0, 2, 4))):
            self.refused(NoSet, most_leaves, web, wishes)
            self.assertIs(right_why(web, (), wishes, why_not(web, (), wishes)), True)

    def test_twelve_places_and_thirteen(self):
        for web in judges.webs_of(12):
            for wishes in ((), (0,), (0, 11), (3, 7)):
                least = judges.least_kept(web, (1,) * 12, (), wishes)
                if least is None:
                    self.refused(NoSet, most_leaves, web, wishes)
                else:
                    self.assertEqual(self.met(web, wishes), 12 - least, (web, wishes))
        for web in (way(13), ring(13), star(13), full(13), comb(7), judges.mixed(13, 3), way(60), most_ties(200)):
            for wishes in ((), (0,), (1,), tuple(range(web[0]))):
                self.refused(TooGreat, most_leaves, web, wishes)

    def test_against_all_trees_of_small_webs(self):
        for web in judges.tiny_webs() + judges.small_webs() + [ladder(5), ring(10), judges.mixed(10, 4)]:
            if len(judges.trees_of(web)) < 20000:
                for wishes in judges.some_wishes(web[0]):
                    self.answered(web, wishes)

    def test_all_wishes_of_small_webs(self):
        for web in list(samples.all_webs(3)) + list(samples.all_webs(4))[::3] + [judges.STUCK, ring(5), ladder(3)]:
            for wishes in judges.choices(range(web[0])):
                self.answered(web, wishes)

    def test_the_most_leaves_and_the_fewest_busy_places_are_all(self):
        for web in judges.small_webs():
            busy = cheapest_set(web, (1,) * web[0], (), ())[0]
            self.assertEqual(self.met(web, ()) + len(busy), web[0])

    def test_a_tie_more_never_makes_fewer(self):
        for n, k in ((5, 1), (6, 2), (7, 3)):
            web = judges.mixed(n, k)
            leaves = self.met(web, ())
            for tie in full(n)[1]:
                if tie not in web[1]:
                    self.assertGreaterEqual(self.met((n, tuple(sorted(web[1] + (tie,)))), ()), leaves, (web, tie))

    def test_twelve_places_in_time(self):
        for k in range(30):
            ties = set(ring(12)[1]) | {tie for tie in full(12)[1] if (tie[0] * 7 + tie[1] * (k + 2)) % 17 < 1 + k // 6}
            web = (12, tuple(sorted(ties)))
            for wishes in ((), (0,), (5, 6)):
                if why_not(web, (), wishes) is None:
                    self.assertIs(right_most(web, wishes, most_leaves(web, wishes)), True)


class RightMost(Asking):

    def judged(self, web, wishes, thing):
        self.told(judges.is_best(web, (1,) * web[0], wishes, thing), right_most, web, wishes, thing)

    def test_ordinary(self):
        self.told(True, right_most, ring(5), (), (way(5)[1], THIN))
        self.told(True, right_most, ring(5), (0, 4), (way(5)[1], THIN))
        self.told(False, right_most, ring(5), (2,), (way(5)[1], THIN))
        self.told(True, right_most, full(4), (), (star(4, 2)[1], THIN))
        self.told(True, right_most, full(4), (0,), (star(4, 2)[1], ("shares", ((0, 1, 1),))))
        self.told(False, right_most, full(4), (2,), (star(4, 2)[1], THIN))

    def test_any_size(self):
        self.told(True, right_most, full(13), (), (star(13, 12)[1], THIN))
        self.told(True, right_most, way(60), (), (way(60)[1], THIN))
        self.told(True, right_most, way(60), (0, 59), (way(60)[1], THIN))
        self.told(True, right_most, ring(60), (0, 59), (way(60)[1], THIN))
        self.told(False, right_most, ring(60), (0, 58), (way(60)[1], THIN))
        self.told(True, right_most, star(60, 5), (), (star(60, 5)[1], THIN))
        self.told(True, right_most, comb(30), (), (comb(30)[1], THIN))
        self.told(True, right_most, most_ties(200), (59,), (star(60)[1], THIN))

    def test_a_tree_with_fewer_leaves_than_there_could_be(self):
        # No cases are right for it, those for the best tree neither.
        for web, wishes, tree in ((full(4), (), way(4)[1]), (full(4), (0,), way(4)[1]),
                                  (judges.STUCK, (), judges.STUCK_TREE), (most_ties(200), (), way(60)[1])):
            for cases in (THIN, ("over",), ("shares", ((0, 1, 1),)), ("shares", ()), ("part", 0, THIN, THIN)):
                self.told(False, right_most, web, wishes, (tree, cases))
            if web[0] < 13:
                pair = most_leaves(web, wishes)
                self.told(True, right_most, web, wishes, pair)
                self.told(False, right_most, web, wishes, (tree, pair[1]))

    def test_cases_for_another_limit(self):
        # With three busy places the cases are to be for a limit of 2: those for 1 alone are too weak.
        web = ladder(4)
        tree, cases = most_leaves(web, ())
        self.assertEqual(len(judges.ends_of(8, tree)), 4)
        weak = ("shares", ((0, 1, 1), (3, 1, 1)))
        self.assertIs(right_cases(web, (1,) * 8, (), (), 1, weak), True)
        self.assertIs(right_cases(web, (1,) * 8, (), (), 2, weak), False)
        self.told(False, right_most, web, (), (tree, weak))
        self.told(True, right_most, web, (), (tree, cases))
        # Cases for a greater limit are let by wherever they are right for this one, too.
        self.told(True, right_most, ring(5), (), (way(5)[1], ("part", 0, THIN, THIN)))
        self.told(False, right_most, full(4), (), (star(4)[1], ("shares", ((0, 2, 1),))))

    def test_cases_for_other_wishes(self):
        # A why for the wishes that are barred is none where they are not.
        for wishes in ((), (1,), (0,)):
            tree = star(4, 2)[1]
            self.judged(full(4), wishes, (tree, ("shares", ((3, 1, 1),))))
            self.judged(full(4), wishes, (tree, ("part", 1, ("over",), THIN)))
        pair = (((0, 1), (0, 2), (2, 3)), ("part", 0, ("shares", ((3, 1, 1),)), ("apart", (1,), 1, 2)))
        web = (4, ((0, 1), (0, 2), (1, 3), (2, 3)))
        self.told(False, right_most, web, (), pair)
        self.told(False, right_most, web, (1,), pair)
        self.told(True, right_most, web, (3,), pair)

    def test_no_tree_or_no_cases(self):
        self.told(True, right_most, ring(5), (), (way(5)[1], THIN))
        for thing in judges.no_pairs(way(5)[1], THIN):
            self.told(False, right_most, ring(5), (), thing)

    def test_all_trees_of_small_webs_with_the_told_cases(self):
        for web in judges.tiny_webs() + judges.small_webs()[:9]:
            for wishes in ((), (web[0] - 1,), (0, 1)):
                most = most_of_all(web, wishes)
                if most is not None:
                    cases = most_leaves(web, wishes)[1]
                    for tree in judges.some_trees(web, 12):
                        ends = judges.ends_of(web[0], tree)
                        right = set(wishes) <= set(ends) and len(ends) == most
                        self.told(right, right_most, web, wishes, (tree, cases))

    def test_refuses_nothing(self):
        for web in (way(3), full(12), full(13), way(60), most_ties(200)):
            tree = samples.some_tree(web)
            for wishes in ((), tuple(range(web[0])), (1,)):
                for thing in (None, (tree, None), (tree, ("over",)), (tree, THIN), (tree, ("bare", 0))):
                    self.assertIn(self.ask(right_most, web, wishes, thing), (True, False))
        # With all barred there is a why, but no tree keeps such wishes.
        self.told(False, right_most, full(13), tuple(range(13)), (star(13)[1], ("bare", 0)))
        self.told(False, right_most, way(13), (6,), (way(13)[1], ("apart", (0, 1, 2, 3, 4, 5), 0, 12)))

    def test_anything(self):
        for web in (way(4), full(3), most_ties(200)):
            tree = samples.some_tree(web)
            for thing in samples.odd_things() + samples.great_things():
                for pair in (thing, (thing, THIN), (tree, thing), (tree, ("part", 0, thing, ("over",))),
                             ((thing,), THIN)):
                    self.judged(web, (), pair)

    def test_spoilt_pairs(self):
        for web, wishes, pair in ((way(4), (0,), (way(4)[1], ("part", 1, THIN, ("bare", 0)))),
                                  (way(4), (), (way(4)[1], ("part", 1, THIN, ("apart", (0,), 0, 3)))),
                                  (full(3), (), (star(3, 1)[1], ("shares", ((1, 1, 1),))))):
            self.told(True, right_most, web, wishes, pair)
            for thing in samples.spoilt(pair):
                self.judged(web, wishes, thing)

    def test_places_beyond_the_web(self):
        for p in (-1, 4, 60, HUGE, -HUGE):
            self.told(False, right_most, way(4), (), (((0, 1), (1, 2), (2, p)), THIN))
            self.told(False, right_most, way(4), (), (way(4)[1], ("part", p, THIN, THIN)))

    def test_somewhat_beyond_the_bounds(self):
        self.told(True, right_most, way(65), (), (way(65)[1], THIN))
        self.told(True, right_most, way(65), (0,), (way(65)[1], THIN))


if __name__ == "__main__":
    unittest.main()

"""What the document promises over the whole program (point 3)."""

import itertools
import unittest

from manyleaves.apart import right_none, right_two
from manyleaves.atonce import at_once
from manyleaves.between import between
from manyleaves.bounds import bound_of, least_price, right_bound
from manyleaves.cases import right_cases
from manyleaves.climbing import climbed
from manyleaves.dear import cheapest_tree
from manyleaves.errors import NoSet
from manyleaves.exact import cheapest_set
from manyleaves.growing import grown
from manyleaves.keeper import Keeper
from manyleaves.lean import lean_of, right_needs
from manyleaves.led import led_places, led_prices, led_web
from manyleaves.most import most_leaves
from manyleaves.musts import musts, need_not
from manyleaves.sets import right_set, tree_by
from manyleaves.trees import busy_of, leaves_of, right_tree
from manyleaves.two import two_trees
from manyleaves.whys import right_why, why_not

import judges
from judges import price, sides, some_names
from samples import Asking, all_webs, comb, far_ties, full, ladder, most_ties, ring, star, way


def webs_gone_through():
    """Webs of three to ten places, all busy sets of which are gone through."""
    return judges.tiny_webs()[::3] + judges.small_webs() + judges.webs_of(10)[::2]


def most_of(web):
    return len(leaves_of(most_leaves(web, ())[0]))


class Whole(Asking):

    def test_told_trees_join_all_places(self):
        for web in webs_gone_through() + judges.great_webs() + [far_ties(200)]:
            n = web[0]
            trees = [grown(web)[1], climbed(web, grown(web)[1])[1], Keeper(web).kept(), tree_by(web, tuple(range(n)))]
            trees += [need_not(web, p) for p in range(0, n, 7) if p not in musts(web)]
            if n <= 12:
                trees += [most_leaves(web, ())[0], cheapest_tree(web, (3,) * n, ())[0]]
                trees += two_trees(web)[1:] if two_trees(web)[0] == "two" else ()
            for tree in trees:
                self.assertTrue(judges.is_tree(web, tree), (web, tree))
                self.assertEqual(leaves_of(tree), judges.ends_of(n, tree))
                self.assertEqual(sorted(leaves_of(tree) + busy_of(tree)), list(range(n)))
                self.assertTrue(judges.is_busy_set(web, busy_of(tree)))

    def test_busy_sets_and_trees(self):
        for web in judges.tiny_webs() + judges.small_webs()[:12]:
            n = web[0]
            for busy in judges.busy_sets(web):
                leaves = leaves_of(tree_by(web, busy))
                self.assertLessEqual(set(range(n)) - set(busy), set(leaves))
            self.assertEqual(most_of(web) + len(cheapest_set(web, (1,) * n, (), ())[0]), n)

    def test_the_most_leaves_lie_between_the_numbers(self):
        for web in webs_gone_through() + judges.webs_of(12):
            few, many = between(web)
            self.assertTrue(few <= most_of(web) <= many, web)
            told = at_once(web)
            if told is not None:
                self.assertEqual(len(leaves_of(told[1])), most_of(web))

    def test_a_stopped_tree_and_the_most_leaves(self):
        for web in webs_gone_through() + judges.webs_of(12):
            self.assertLessEqual(most_of(web), 14 * len(leaves_of(Keeper(web).kept())) - 20)

    def test_answers_meet_their_cases(self):
        for web in webs_gone_through():
            n = web[0]
            for prices in judges.price_rows(n)[::2]:
                for held, barred in (((), ()), ((0,), ()), ((), (n - 1,))):
                    least = judges.least_kept(web, prices, held, barred)
                    if least is None:
                        self.refused(NoSet, cheapest_set, web, prices, held, barred)
                        self.assertIs(right_why(web, held, barred, why_not(web, held, barred)), True)
                    else:
                        busy, cases = cheapest_set(web, prices, held, barred)
                        self.assertEqual(price(prices, busy), least)
                        self.assertIs(right_cases(web, prices, held, barred, least - 1, cases), True)

    def test_bounds_and_lean_sets_of_webs_of_any_size(self):
        for web in webs_gone_through() + judges.great_webs():
            n = web[0]
            for prices in ((1,) * n, judges.price_rows(n)[2]):
                bound = bound_of(web, prices)
                self.assertIs(right_bound(web, prices, bound), True)
                if n <= 10:
                    self.assertLessEqual(least_price(prices, bound), judges.least_kept(web, prices, (), ()))
            busy, needs = lean_of(web, tuple(range(n)), tuple(range(n))[::-1])
            self.assertIs(right_set(web, busy), True)
            self.assertIs(right_needs(web, busy, needs), True)
            self.assertEqual(len(leaves_of(tree_by(web, busy))), n - len(busy))

    def test_places_that_must_be_busy_are_busy_in_every_tree(self):
        for web in judges.tiny_webs() + judges.small_webs()[:6]:
            must = set(range(web[0]))
            for tree in judges.trees_of(web):
                must &= set(judges.busy_in(web[0], tree))
            self.assertEqual(musts(web), tuple(sorted(must)))

    def test_two_trees_or_cases(self):
        for web in webs_gone_through():
            told = two_trees(web)
            if told[0] == "two":
                self.assertIs(right_two(web, told[1:]), True)
            else:
                self.assertIs(right_none(web, told[1]), True)
            apart = any(judges.are_apart(web, *pair) for pair in itertools.combinations(judges.some_trees(web, 12), 2))
            self.assertTrue(told[0] == "two" or not apart, web)

    def test_all_pairs_of_trees_of_small_webs(self):
        for web in list(all_webs(3)) + list(all_webs(4)) + [ring(5), sides(2, 3), judges.STUCK]:
            apart = any(judges.are_apart(web, *pair) for pair in itertools.combinations(judges.trees_of(web), 2))
            self.assertEqual(two_trees(web)[0] == "two", apart, web)


class OneTieMore(Asking):

    def test_of_the_best_tree(self):
        for web in judges.tiny_webs()[::4] + [way(6), ring(7), comb(4), ladder(4), judges.HELPED, judges.mixed(9, 5)]:
            ahead = most_of(web)
            for tie in full(web[0])[1]:
                if tie not in web[1]:
                    self.assertGreaterEqual(most_of((web[0], tuple(sorted(web[1] + (tie,))))), ahead)

    def test_of_the_kept_tree(self):
        for web in (way(6), ring(7), comb(4), ladder(4), judges.HELPED, judges.mixed(9, 5), judges.mixed(12, 4)):
            keeper = Keeper(web)
            missing = [tie for tie in full(web[0])[1] if tie not in web[1]]
            for tie in missing[::2] + missing[1::2]:
                ahead = len(leaves_of(keeper.kept()))
                keeper.put(*tie)
                self.assertGreaterEqual(len(leaves_of(keeper.kept())), ahead)
            self.assertEqual(keeper.now(), full(web[0]))
            self.assertIs(right_tree(full(web[0]), keeper.kept()), True)

    def test_of_the_kept_tree_of_sixty_places(self):
        for web in (ring(60), far_ties(190)):
            keeper = Keeper(web)
            for tie in [tie for tie in full(60)[1] if tie not in web[1]][::181]:
                ahead = len(leaves_of(keeper.kept()))
                keeper.put(*tie[::-1])
                self.assertGreaterEqual(len(leaves_of(keeper.kept())), ahead)


class Renamed(Asking):

    def alike(self, web, names):
        led = led_web(web, names)
        self.assertEqual(musts(led), led_places(musts(web), names))
        told, again = at_once(web), at_once(led)
        self.assertEqual(told and told[0], again and again[0])
        if told:
            self.assertEqual(len(leaves_of(told[1])), len(leaves_of(again[1])))
        return led

    def test_webs_within_the_exact_bounds(self):
        for web in [full(3), way(4), ring(6), ladder(4), sides(3, 4), comb(4), judges.STUCK, judges.HELPED,
                    judges.mixed(8, 4), judges.mixed(9, 11), judges.mixed(12, 4)]:
            n = web[0]
            prices = judges.price_rows(n)[2]
            cost = price(prices, cheapest_set(web, prices, (), ())[0])
            dear = price(prices, busy_of(cheapest_tree(web, prices, (n - 1,))[0])) if n - 1 not in musts(web) else None
            for names in some_names(n):
                led = self.alike(web, names)
                led_over = led_prices(prices, names)
                self.assertEqual(price(led_over, cheapest_set(led, led_over, (), ())[0]), cost)
                self.assertEqual(most_of(led), most_of(web))
                self.assertEqual(two_trees(led)[0], two_trees(web)[0])
                if dear is not None:
                    tree = cheapest_tree(led, led_over, (names[n - 1],))[0]
                    self.assertEqual(price(led_over, busy_of(tree)), dear)

    def test_webs_of_any_size(self):
        for web in judges.great_webs() + [most_ties(200), star(13, 4), ring(13), sides(4, 50), full(20)]:
            for names in some_names(web[0]):
                self.alike(web, names)


if __name__ == "__main__":
    unittest.main()

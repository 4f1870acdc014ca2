"""A keeper of a web and a stopped tree of it (point 28)."""

import unittest

from manyleaves.climbing import climbed, right_stopped
from manyleaves.errors import Apart, NoTie, Taken, TooMany
from manyleaves.exchanges import rows_of
from manyleaves.growing import grown
from manyleaves.keeper import Keeper

import judges
import samples
from judges import PlainKeeper, ends_of
from samples import Asking, all_webs, comb, far_ties, full, is_told, ladder, most_ties, ring, star, way

REFUSALS = {"Taken": Taken, "TooMany": TooMany, "NoTie": NoTie, "Apart": Apart}


class Kept(Asking):

    def same(self, keeper, web, tree):
        """See to it that a keeper tells a web and a tree, once and again."""
        for time in range(2):
            self.assertEqual(repr(keeper.now()), repr(web))
            self.assertEqual(repr(keeper.kept()), repr(tree))

    def none_done(self, keeper, error, deed, a, b):
        """See to it that a deed is refused, once and again, and changes nothing."""
        web, tree = keeper.now(), keeper.kept()
        self.refused(error, deed, a, b)
        self.same(keeper, web, tree)

    def follow(self, web, deeds):
        """Do deeds (put, a, b) with a keeper and by the words of the document, and compare after each."""
        keeper, plain = Keeper(web), PlainKeeper(web)
        self.same(keeper, plain.web, plain.tree)
        told = []
        for put, a, b in deeds:
            leaves = len(ends_of(web[0], keeper.kept()))
            right = plain.put(a, b) if put else plain.drop(a, b)
            deed = keeper.put if put else keeper.drop
            if right in REFUSALS:
                self.none_done(keeper, REFUSALS[right], deed, a, b)
            else:
                rows = deed(a, b)
                self.assertEqual(repr(rows), repr(right), (web, deeds))
                self.assertTrue(is_told(rows))
                if put:
                    self.assertGreaterEqual(len(ends_of(web[0], keeper.kept())), leaves)
            self.same(keeper, plain.web, plain.tree)
            self.assertIs(right_stopped(plain.web, keeper.kept(), rows_of(plain.web, keeper.kept())), True)
            told.append(right if right in REFUSALS else len(right))
        return told

    def test_at_first(self):
        for web in judges.tiny_webs() + judges.small_webs() + judges.webs_of(12) + judges.great_webs():
            keeper = Keeper(web)
            self.same(keeper, web, climbed(web, grown(web)[1])[1])
        self.same(Keeper(judges.HELPED), judges.HELPED, ((0, 1), (1, 2), (1, 4), (3, 5), (4, 5), (5, 6)))

    def test_put(self):
        keeper = Keeper(way(4))
        self.same(keeper, way(4), way(4)[1])
        self.assertEqual(keeper.put(0, 2), (((0, 2), (0, 1), 3),))
        self.same(keeper, (4, ((0, 1), (0, 2), (1, 2), (2, 3))), ((0, 2), (1, 2), (2, 3)))
        self.assertEqual(keeper.put(3, 0), ())
        self.same(keeper, (4, ((0, 1), (0, 2), (0, 3), (1, 2), (2, 3))), ((0, 2), (1, 2), (2, 3)))

    def test_put_with_several_rows(self):
        # Of the way 2, 1, 0, 3, 4, 5: with 1 and 4 tied, 0 and 1 may part, and then 0 and 3 instead.
        web = (6, ((0, 1), (0, 3), (1, 2), (3, 4), (4, 5)))
        keeper = Keeper(web)
        self.assertEqual(keeper.put(4, 1), (((1, 4), (0, 1), 3), ((0, 1), (0, 3), 4)))
        self.same(keeper, (6, tuple(sorted(web[1] + ((1, 4),)))), ((0, 1), (1, 2), (1, 4), (3, 4), (4, 5)))
        self.assertEqual(self.follow(web, [(True, 1, 4)]), [2])

    def test_either_order_of_the_two_places(self):
        for a, b in ((0, 3), (1, 4), (2, 5)):
            one, other = Keeper(ring(7)), Keeper(ring(7))
            self.assertEqual(one.put(a, b), other.put(b, a))
            self.same(one, other.now(), other.kept())
            self.assertEqual(one.drop(b, a), other.drop(a, b))
            self.same(one, other.now(), other.kept())
            self.assertEqual(one.now(), ring(7))
            for keeper in (one, other):
                self.none_done(keeper, NoTie, keeper.drop, a, b)
                self.none_done(keeper, NoTie, keeper.drop, b, a)
                self.none_done(keeper, Taken, keeper.put, 0, 6)
                self.none_done(keeper, Taken, keeper.put, 6, 0)

    def test_drop_of_a_tie_outside_the_kept_tree(self):
        keeper = Keeper(ring(5))
        tree = keeper.kept()
        self.assertEqual(tree, ((0, 1), (0, 4), (1, 2), (2, 3)))
        self.assertEqual(repr(keeper.drop(4, 3)), "()")
        self.same(keeper, (5, tree), tree)
        keeper = Keeper(most_ties(200))
        for tie in [tie for tie in most_ties(200)[1] if 0 not in tie][:20]:
            self.assertEqual(repr(keeper.drop(*tie)), "()")
            self.assertEqual(keeper.kept(), star(60)[1])
        self.assertEqual(len(keeper.now()[1]), 180)

    def test_drop_of_a_tie_of_the_kept_tree(self):
        keeper = Keeper(ring(5))
        self.assertEqual(repr(keeper.drop(0, 1)), "()")
        self.same(keeper, (5, ((0, 4), (1, 2), (2, 3), (3, 4))), ((0, 4), (1, 2), (2, 3), (3, 4)))

    def test_the_least_tie_that_joins_comes_in_its_place(self):
        # Without 0 and 3 tied, 3 can hang on 1, on 2 or on 4.
        web = (5, ((0, 1), (0, 2), (0, 3), (0, 4), (1, 3), (2, 3), (3, 4)))
        keeper = Keeper(web)
        self.assertEqual(keeper.kept(), star(5)[1])
        self.assertEqual(keeper.drop(3, 0), ())
        self.assertEqual(keeper.kept(), ((0, 1), (0, 2), (0, 4), (1, 3)))
        self.assertEqual(keeper.drop(1, 3), ())
        self.assertEqual(keeper.kept(), ((0, 1), (0, 2), (0, 4), (2, 3)))
        self.assertEqual(keeper.drop(3, 2), ())
        self.assertEqual(keeper.kept(), ((0, 1), (0, 2), (0, 4), (3, 4)))
        self.none_done(keeper, Apart, keeper.drop, 3, 4)

    def test_drop_of_a_tie_of_the_kept_tree_and_climbing(self):
        # Whichever tie goes, what comes in its place is climbed from.
        climbed_then = 0
        for web in judges.small_webs() + judges.webs_of(10):
            for tie in Keeper(web).kept():
                told = self.follow(web, [(False, *tie)])
                climbed_then += told[0] not in ("Apart", 0)
        self.assertGreater(climbed_then, 2)

    def test_drop_that_leaves_two_pieces(self):
        for web in (way(3), way(60), star(60, 30), comb(30)):
            keeper = Keeper(web)
            for a, b in web[1][::7]:
                self.none_done(keeper, Apart, keeper.drop, a, b)
                self.none_done(keeper, Apart, keeper.drop, b, a)

    def test_drop_of_a_tie_that_is_not_there(self):
        # NoTie is told first, though the web is no ring.
        for web in (way(5), ring(5), comb(3), judges.mixed(60, 7)):
            keeper = Keeper(web)
            for tie in full(web[0])[1][::3]:
                if tie not in web[1]:
                    self.none_done(keeper, NoTie, keeper.drop, *tie)

    def test_as_many_ties_as_may_be(self):
        for web_of in (most_ties, far_ties):
            keeper = Keeper(web_of(199))
            missing = [tie for tie in full(60)[1] if tie not in web_of(199)[1]]
            self.none_done(keeper, Taken, keeper.put, *web_of(199)[1][5])
            self.assertEqual(len(keeper.now()[1]), 199)
            self.assertTrue(is_told(keeper.put(*missing[0])))
            self.assertEqual(len(keeper.now()[1]), 200)
            # What is there is told ahead of how many there are.
            self.none_done(keeper, Taken, keeper.put, *missing[0])
            self.none_done(keeper, Taken, keeper.put, *web_of(199)[1][-1])
            self.none_done(keeper, TooMany, keeper.put, *missing[1])
            self.none_done(keeper, TooMany, keeper.put, *missing[-1][::-1])
            keeper.drop(*missing[0])
            keeper.put(*missing[1])
            self.none_done(keeper, TooMany, keeper.put, *missing[0])

    def test_two_keepers_side_by_side(self):
        one, other = Keeper(ring(6)), Keeper(ring(6))
        one.put(0, 3)
        self.same(other, ring(6), Keeper(ring(6)).kept())
        other.put(0, 2)
        other.drop(0, 1)
        self.assertEqual(one.now(), (6, tuple(sorted(ring(6)[1] + ((0, 3),)))))
        self.assertEqual(other.now(), (6, tuple(sorted({*ring(6)[1], (0, 2)} - {(0, 1)}))))
        third = Keeper(ring(6))
        self.assertEqual(third.put(0, 3), Keeper(ring(6)).put(0, 3))
        self.same(third, one.now(), one.kept())

    def test_each_put_and_each_drop_of_small_webs(self):
        for web in list(all_webs(3)) + list(all_webs(4)) + list(all_webs(5))[::41]:
            for a, b in full(web[0])[1]:
                self.follow(web, [(True, a, b)])
                self.follow(web, [(False, b, a)])

    def deeds(self, n, many, seed):
        """Some deeds, puts and drops mixed."""
        some = []
        for k in range(many):
            seed = (seed * 1103515245 + 12345) % 2 ** 31
            a, b = seed // 7 % n, seed // 1009 % n
            if a != b:
                some.append((seed // 64 % 5 < 3, a, b))
        return some

    def test_many_deeds_of_webs_of_three_to_twelve_places(self):
        told = []
        for web in judges.small_webs() + judges.webs_of(12)[::2]:
            told += self.follow(web, self.deeds(web[0], 25, web[0] + len(web[1])))
        for word in ("Taken", "NoTie", "Apart", 0, 1):
            self.assertIn(word, told)

    def test_thirteen_places(self):
        for web in (way(13), ring(13), judges.mixed(13, 2)):
            self.follow(web, self.deeds(13, 15, 5))

    def test_sixty_places(self):
        for web in (ring(60), comb(30), ladder(30)):
            self.follow(web, self.deeds(60, 5, 3) + [(False, *web[1][30])])

    def test_sixty_places_and_two_hundred_ties(self):
        for web in (most_ties(200), far_ties(200)):
            keeper = Keeper(web)
            tie = keeper.kept()[20]
            leaves = len(ends_of(60, keeper.kept()))
            rows = keeper.drop(*tie)
            self.assertTrue(samples.is_tree(keeper.now(), keeper.kept()))
            self.assertIs(right_stopped(keeper.now(), keeper.kept(), rows_of(keeper.now(), keeper.kept())), True)
            self.assertTrue(is_told(rows))
            middle = len(ends_of(60, keeper.kept()))
            keeper.put(*tie)
            self.assertEqual(keeper.now(), web)
            self.assertGreaterEqual(len(ends_of(60, keeper.kept())), middle)
            self.assertLessEqual(leaves - middle, 3)

    def test_a_keeper_from_a_way_to_a_full_web_and_back(self):
        for n in (3, 5, 8):
            more = [tie for tie in full(n)[1] if tie not in way(n)[1]]
            told = self.follow(way(n), [(True, *tie) for tie in more] + [(False, *tie) for tie in more])
            self.assertTrue(all(type(k) is int for k in told))

    def test_what_is_handed_in_stays(self):
        web = ring(6)
        keeper = Keeper(web)
        keeper.put(0, 3)
        keeper.drop(0, 1)
        self.assertEqual(web, ring(6))

    def test_somewhat_beyond_the_bounds(self):
        keeper = Keeper(full(21))
        self.none_done(keeper, Taken, keeper.put, 3, 4)
        keeper = Keeper(way(65))
        self.none_done(keeper, NoTie, keeper.drop, 0, 64)
        keeper.put(64, 0)
        self.assertEqual(keeper.now(), ring(65))
        keeper = Keeper(far_ties(205))
        missing = [tie for tie in full(60)[1] if tie not in far_ties(205)[1]]
        self.none_done(keeper, TooMany, keeper.put, *missing[0])


if __name__ == "__main__":
    unittest.main()

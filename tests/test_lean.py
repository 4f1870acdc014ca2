"""Lean sets and what their places are needed for (points 34 and 35)."""

import itertools
import unittest

from manyleaves.lean import lean_of, right_needs

import judges
import samples
from samples import Asking, comb, full, ladder, most_ties, ring, star, way

# Places 0, 1, 2 are in a way; 3 to 6 hang on 0 and 2, and 1 has nothing of its own.
DUMB_BELL = (7, ((0, 1), (0, 3), (0, 4), (1, 2), (2, 5), (2, 6)))


class RightNeeds(Asking):

    def judged(self, web, busy, thing):
        self.told(judges.is_needs(web, busy, thing), right_needs, web, busy, thing)

    def test_both_kinds(self):
        self.told(True, right_needs, DUMB_BELL, (0, 1, 2), (("own", 3), ("parts", (0,)), ("own", 5)))
        self.told(True, right_needs, DUMB_BELL, (0, 1, 2), (("own", 4), ("parts", (2,)), ("own", 6)))
        self.told(True, right_needs, ring(5), (0, 1, 2), (("own", 4), ("parts", (0,)), ("own", 3)))
        self.told(True, right_needs, ladder(3), (1, 4), (("own", 0), ("own", 5)))
        self.told(True, right_needs, comb(3), (0, 1, 2), (("own", 3), ("own", 4), ("own", 5)))
        self.told(True, right_needs, comb(3), (0, 1, 2), (("own", 3), ("parts", (2,)), ("own", 5)))

    def test_the_place_itself_as_its_own(self):
        self.told(True, right_needs, full(3), (1,), (("own", 1),))
        self.told(True, right_needs, star(60, 7), (7,), (("own", 7),))
        self.told(False, right_needs, ladder(3), (1, 4), (("own", 1), ("own", 5)))
        self.told(False, right_needs, ladder(3), (1, 4), (("own", 0), ("own", 4)))

    def test_a_set_of_one_place(self):
        for x in range(9):
            self.told(True, right_needs, full(9), (4,), (("own", x),))
            self.told(False, right_needs, full(9), (4,), (("parts", (x,)),))
        self.told(False, right_needs, full(9), (4,), (("parts", ()),))

    def test_own_with_another_place_of_the_set(self):
        self.told(False, right_needs, ring(5), (0, 1, 2), (("own", 0), ("parts", (0,)), ("own", 3)))
        self.told(False, right_needs, full(4), (0, 1), (("own", 2), ("own", 3)))
        self.told(False, right_needs, ring(5), (0, 1, 2), (("own", 4), ("own", 1), ("own", 3)))

    def test_own_without_the_place(self):
        self.told(False, right_needs, DUMB_BELL, (0, 1, 2), (("own", 5), ("parts", (0,)), ("own", 5)))
        self.told(False, right_needs, DUMB_BELL, (0, 1, 2), (("own", 3), ("own", 3), ("own", 5)))
        self.told(False, right_needs, ladder(3), (1, 4), (("own", 5), ("own", 0)))

    def test_sides(self):
        busy = (0, 1, 2, 3, 4)
        web = comb(5)
        ends = [("own", x) for x in range(5, 10)]

        def middle(side):
            return tuple(ends[:2] + [("parts", side)] + ends[3:])

        self.told(True, right_needs, web, busy, middle((0, 1)))
        self.told(True, right_needs, web, busy, middle((3, 4)))
        for side in ((), (0,), (1,), (3,), (4,), (0, 1, 3, 4), (0, 1, 2), (2,), (0, 1, 3), (0, 3), (1, 4), (0, 1, 5),
                     (5, 6), (0, 1, 2, 3, 4), (1, 0), (0, 0, 1), (0, 1, 1), (-1, 0, 1), (0, 1, 10), (0, 1, 10 ** 99)):
            self.told(False, right_needs, web, busy, middle(side))

    def test_an_empty_side_and_one_of_all_the_others(self):
        ends = ("own", 3), ("own", 5)
        self.told(False, right_needs, DUMB_BELL, (0, 1, 2), (ends[0], ("parts", ()), ends[1]))
        self.told(False, right_needs, DUMB_BELL, (0, 1, 2), (ends[0], ("parts", (0, 2)), ends[1]))
        self.told(False, right_needs, DUMB_BELL, (0, 1, 2), (("parts", ()), ("parts", (0,)), ends[1]))
        self.told(False, right_needs, DUMB_BELL, (0, 1, 2), (("parts", (1, 2)), ("parts", (0,)), ends[1]))

    def test_a_side_of_several_lots(self):
        web = (9, star(5)[1] + ((1, 5), (2, 6), (3, 7), (4, 8)))
        needs = (("own", 5), ("own", 6), ("own", 7), ("own", 8))
        for side in ((1,), (1, 3), (2, 3, 4), (1, 2, 3)):
            self.told(True, right_needs, web, (0, 1, 2, 3, 4), (("parts", side),) + needs)
        for side in ((), (1, 2, 3, 4), (0, 1), (1, 5)):
            self.told(False, right_needs, web, (0, 1, 2, 3, 4), (("parts", side),) + needs)

    def test_sixty_places(self):
        busy = tuple(range(1, 59))
        parts = [("parts", tuple(range(1, p))) for p in range(2, 58)]
        self.told(True, right_needs, way(60), busy, tuple([("own", 0)] + parts + [("own", 59)]))
        self.told(False, right_needs, way(60), busy, tuple([("own", 0)] + parts[::-1] + [("own", 59)]))
        self.told(False, right_needs, way(60), busy, tuple([("own", 59)] + parts + [("own", 0)]))
        self.told(True, right_needs, comb(30), tuple(range(30)), tuple(("own", 30 + p) for p in range(30)))
        self.told(False, right_needs, comb(30), tuple(range(30)), tuple(("own", 59 - p) for p in range(30)))

    def test_one_for_each_place_in_order(self):
        needs = (("own", 3), ("parts", (0,)), ("own", 5))
        for thing in (needs[:2], needs[1:], needs + (("own", 5),), needs[::-1], (), needs[:1] + needs[2:],
                      (needs[1], needs[0], needs[2]), (needs,), needs + ((),)):
            self.told(False, right_needs, DUMB_BELL, (0, 1, 2), thing)

    def all_needs(self, n):
        return [("own", x) for x in range(n)] + [("parts", side) for side in judges.choices(range(n))]

    def test_all_needs_of_small_webs(self):
        for web in judges.tiny_webs() + judges.small_webs()[:9]:
            for busy in judges.busy_sets(web):
                self.each_need_judged(web, busy)

    def each_need_judged(self, web, busy):
        """Each need of each place, the others having right ones where there are such."""
        fits = {p: [need for need in self.all_needs(web[0]) if judges.is_need(web, busy, p, need)] for p in busy}
        some = [fits[p][0] if fits[p] else ("own", p) for p in busy]
        for at in range(len(busy)):
            for need in self.all_needs(web[0]):
                thing = tuple(some[:at] + [need] + some[at + 1:])
                right = right_needs(web, busy, thing)
                self.assertIs(right, judges.is_needs(web, busy, thing), (web, busy, thing))
                self.assertTrue(judges.is_lean(web, busy) or not right, (web, busy, thing))

    def test_other_words(self):
        for word in ("", "Own", "own ", "OWN", "parts", "part", "bare", None, 0, True, ("own",), ["own"], {"own": 0}):
            self.told(False, right_needs, full(3), (1,), ((word, 1),))
        for word in ("", "part", "Parts", "parts\n", "own", "apart", None, 0, False, ("parts",), ["parts"]):
            self.told(False, right_needs, ring(5), (0, 1, 2), (("own", 4), (word, (0,)), ("own", 3)))

    def test_too_short_or_too_long(self):
        for need in ((), ("own",), ("own", 1, 1), ("own", (1,)), ("own", 1, 1, 1), "own", 1, None, ("parts",)):
            self.told(False, right_needs, full(3), (1,), (need,))
        for need in (("parts",), ("parts", (0,), (2,)), ("parts", 0), ("parts", 0, 0), ("parts", (0,), 0)):
            self.told(False, right_needs, ring(5), (0, 1, 2), (("own", 4), need, ("own", 3)))

    def test_no_places(self):
        for x in (-1, 3, 60, 10 ** 99, -(10 ** 99), True, False, None, "1", (1,), [1], {1: 1}):
            self.told(False, right_needs, full(3), (1,), (("own", x),))
            self.told(False, right_needs, ring(5), (0, 1, 2), (("own", 4), ("parts", (x,)), ("own", 3)))

    def test_nothing_stands_for_a_tuple(self):
        self.told(False, right_needs, full(3), (1,), [("own", 1)])
        self.told(False, right_needs, full(3), (1,), (["own", 1],))
        self.told(False, right_needs, full(3), (1,), ({"own": 1},))
        self.told(False, right_needs, full(3), (1,), {("own", 1): 0})
        self.told(False, right_needs, full(3), (1,), ("own", 1))
        self.told(False, right_needs, full(3), (1,), "o")
        self.told(False, right_needs, ladder(3), (1, 4), ("ow", "ow"))
        for side in ([0], {0: 0}, "0", 0, {"0": 0}):
            self.told(False, right_needs, ring(5), (0, 1, 2), (("own", 4), ("parts", side), ("own", 3)))

    def test_anything(self):
        for web, busy in ((full(3), (1,)), (way(4), (1, 2)), (most_ties(200), tuple(range(60)))):
            for thing in samples.odd_things() + samples.great_things():
                self.judged(web, busy, thing)
                self.judged(web, busy, (("own", 0), ("parts", thing)))
                self.judged(web, busy, (("own", thing),))
            for thing in samples.odd_things():
                self.judged(web, busy, (thing,) * len(busy))
                self.judged(web, busy, (("own", thing),) * len(busy))
                self.judged(web, busy, ((thing, 1),) * len(busy))

    def test_spoilt_needs(self):
        for web, busy, needs in ((ring(5), (0, 1, 2), (("own", 4), ("parts", (0,)), ("own", 3))),
                                 (comb(5), (0, 1, 2, 3, 4), (("own", 5), ("parts", (0,)), ("parts", (3, 4)),
                                                             ("own", 8), ("own", 9)))):
            self.told(True, right_needs, web, busy, needs)
            for thing in samples.spoilt(needs):
                self.judged(web, busy, thing)

    def test_somewhat_beyond_the_bounds(self):
        parts = [("parts", tuple(range(1, p))) for p in range(2, 63)]
        needs = tuple([("own", 0)] + parts + [("own", 64)])
        self.told(True, right_needs, way(65), tuple(range(1, 64)), needs)


class LeanOf(Asking):

    def left(self, web, busy, order):
        """What is left by the words of the document."""
        for place in order:
            fewer = tuple(p for p in busy if p != place)
            if judges.is_busy_set(web, fewer):
                busy = fewer
        return busy

    def is_lean_of(self, web, busy, order):
        some, needs = self.ask(lean_of, web, busy, order)
        self.assertEqual(repr(some), repr(self.left(web, busy, order)))
        self.assertTrue(judges.is_busy_set(web, some), (web, busy, order))
        self.assertTrue(judges.is_lean(web, some), (web, busy, order))
        self.assertTrue(judges.is_needs(web, some, needs), (web, busy, order, needs))
        self.assertIs(right_needs(web, some, needs), True)
        return some

    def test_ordinary(self):
        self.told(((1, 2, 3), (("own", 0), ("parts", (1,)), ("own", 4))), lean_of, way(5), (0, 1, 2, 3, 4),
                  (0, 1, 2, 3, 4))
        self.assertEqual(self.is_lean_of(ring(5), (0, 1, 2, 3, 4), (0, 1, 2, 3, 4)), (2, 3, 4))
        self.assertEqual(self.is_lean_of(ring(5), (0, 1, 2, 3, 4), (4, 3, 2, 1, 0)), (0, 1, 2))
        self.assertEqual(self.is_lean_of(ring(5), (0, 1, 2, 3, 4), (2, 1, 4, 3, 0)), (0, 3, 4))
        self.assertEqual(self.is_lean_of(full(4), (0, 1, 2, 3), (2, 0, 3, 1)), (1,))
        self.assertEqual(self.is_lean_of(star(9, 4), tuple(range(9)), tuple(range(9))), (4,))

    def test_an_order_of_one_place(self):
        for n in (3, 9, 20):
            for place in range(n):
                self.assertEqual(self.is_lean_of(full(n), (place,), (place,)), (place,))
        self.assertEqual(self.is_lean_of(star(60, 30), (30,), (30,)), (30,))

    def test_a_set_that_is_lean_stays(self):
        for web in judges.tiny_webs() + judges.small_webs():
            for busy in judges.busy_sets(web):
                if judges.is_lean(web, busy):
                    self.assertEqual(self.is_lean_of(web, busy, busy[::-1]), busy)

    def test_all_orders_of_all_busy_sets_of_small_webs(self):
        for web in list(samples.all_webs(3)) + [way(4), ring(4), star(4, 1), (4, ((0, 1), (0, 2), (1, 2), (2, 3)))]:
            for busy in judges.busy_sets(web):
                for order in itertools.permutations(busy):
                    self.is_lean_of(web, busy, order)

    def test_webs_of_three_to_nine_places(self):
        for web in judges.small_webs():
            for busy in judges.busy_sets(web)[::1 + 2 ** web[0] // 60]:
                for order in (busy, busy[::-1], tuple(sorted(busy, key=lambda p: (p * p + 3 * p) % 7))):
                    self.is_lean_of(web, busy, order)

    def test_twelve_thirteen_and_sixty_places(self):
        for web in judges.webs_of(12) + [way(13), ring(13), judges.mixed(13, 2)] + judges.great_webs():
            n = web[0]
            everything = tuple(range(n))
            for order in (everything, everything[::-1], tuple(sorted(everything, key=lambda p: (p * 7 % n, p)))):
                self.is_lean_of(web, everything, order)

    def test_each_tree_has_just_the_places_outside_as_leaves(self):
        for web in judges.tiny_webs():
            for busy in judges.busy_sets(web):
                some, needs = lean_of(web, busy, busy)
                outside = {p for p in range(web[0]) if p not in some}
                for tree in samples.all_trees(web):
                    ends = {p for p in range(web[0]) if sum(p in tie for tie in tree) == 1}
                    if outside <= ends:
                        self.assertEqual(outside, ends, (web, busy, tree))

    def test_somewhat_beyond_the_bounds(self):
        self.assertEqual(self.is_lean_of(way(65), tuple(range(65)), tuple(range(65))), tuple(range(1, 64)))


if __name__ == "__main__":
    unittest.main()

"""States and whys (points 10 and 11)."""

import itertools
import unittest

from manyleaves.whys import right_why, why_not

import judges
import samples
from samples import Asking, comb, full, ladder, most_ties, ring, star, way


class RightWhy(Asking):

    def judged(self, web, held, barred, thing):
        self.told(judges.is_why(web, held, barred, thing), right_why, web, held, barred, thing)

    def test_bare(self):
        self.told(True, right_why, way(4), (), (0, 1), ("bare", 0))
        self.told(True, right_why, way(4), (3,), (0, 1, 2), ("bare", 1))
        self.told(True, right_why, ring(9), (4,), (0, 1, 8), ("bare", 0))
        self.told(True, right_why, way(60), (), (58, 59), ("bare", 59))

    def test_bare_with_a_place_of_the_lot_that_is_not_barred(self):
        self.told(False, right_why, way(4), (), (0,), ("bare", 0))
        self.told(False, right_why, way(4), (), (1,), ("bare", 0))
        self.told(False, right_why, way(4), (), (0, 1), ("bare", 1))
        self.told(False, right_why, way(4), (), (0, 2), ("bare", 1))
        self.told(False, right_why, way(4), (2,), (0, 1), ("bare", 1))
        self.told(False, right_why, way(60), (), (59,), ("bare", 59))

    def test_apart(self):
        self.told(True, right_why, way(5), (), (2,), ("apart", (0, 1), 0, 4))
        self.told(True, right_why, way(5), (), (2,), ("apart", (0, 1), 1, 3))
        self.told(True, right_why, way(5), (), (2,), ("apart", (3, 4), 4, 0))
        self.told(True, right_why, way(60), (), (30,), ("apart", tuple(range(30)), 0, 59))
        self.told(True, right_why, ring(60), (), (10, 40), ("apart", tuple(range(11, 40)), 20, 50))
        self.told(True, right_why, comb(30), (), (0,), ("apart", (30,), 30, 1))

    def test_a_side_of_several_lots(self):
        self.told(True, right_why, star(6), (), (0,), ("apart", (1, 3), 3, 4))
        self.told(True, right_why, star(6), (), (0,), ("apart", (1, 2, 3, 4), 3, 5))

    def test_a_barred_end_with_its_lot_on_one_side(self):
        # 2 is barred and has the neighbours 1 and 3, one on each side.
        self.told(False, right_why, way(5), (), (2,), ("apart", (0, 1), 2, 4))
        self.told(False, right_why, way(5), (), (2,), ("apart", (0, 1), 0, 2))
        self.told(True, right_why, way(6), (), (0, 3), ("apart", (1, 2), 0, 5))
        self.told(True, right_why, way(6), (), (0, 3), ("apart", (4, 5), 5, 0))

    def test_a_barred_place_in_the_side(self):
        self.told(False, right_why, way(5), (), (2,), ("apart", (0, 1, 2), 0, 4))
        self.told(False, right_why, way(5), (), (2,), ("apart", (2, 3, 4), 4, 0))
        self.told(False, right_why, way(4), (), (0, 1), ("apart", (0,), 0, 3))

    def test_a_tie_that_leads_out_of_the_side(self):
        self.told(False, right_why, way(5), (), (3,), ("apart", (0, 1), 0, 4))
        self.told(False, right_why, way(5), (), (), ("apart", (0, 1), 0, 4))
        self.told(False, right_why, ring(6), (), (2,), ("apart", (0, 1), 1, 4))
        self.told(False, right_why, way(5), (0, 4), (), ("apart", (0, 1), 0, 4))

    def test_an_end_on_the_wrong_side(self):
        self.told(False, right_why, way(5), (), (2,), ("apart", (0, 1), 0, 1))
        self.told(False, right_why, way(5), (), (2,), ("apart", (0, 1), 4, 0))
        self.told(False, right_why, way(5), (), (2,), ("apart", (0, 1), 3, 4))
        self.told(False, right_why, way(5), (), (2,), ("apart", (0, 1), 0, 0))

    def test_held_ends(self):
        self.told(True, right_why, way(5), (0,), (2,), ("apart", (0, 1), 0, 4))
        self.told(True, right_why, way(5), (4,), (2,), ("apart", (0, 1), 0, 4))
        self.told(True, right_why, way(5), (0, 4), (2,), ("apart", (0, 1), 0, 4))
        self.told(False, right_why, way(5), (0,), (2,), ("apart", (3, 4), 0, 4))
        self.told(False, right_why, way(5), (4,), (2,), ("apart", (3, 4), 0, 4))
        self.told(False, right_why, way(5), (0,), (2,), ("apart", (0, 1), 0, 0))

    def test_a_held_end_whose_lot_is_not_looked_at(self):
        # Nothing held has a lot that reaches over the side's rim, as the rim is barred; all else is told by the words.
        for web in (way(4), ring(4), star(4)):
            for held, barred in judges.all_states(4):
                for p in held:
                    for side in judges.choices(range(4)):
                        for q in range(4):
                            self.judged(web, held, barred, ("apart", side, p, q))
                            self.judged(web, held, barred, ("apart", side, q, p))

    def test_an_empty_side(self):
        self.told(False, right_why, way(5), (), (2,), ("apart", (), 0, 4))
        self.told(False, right_why, way(5), (0,), (2,), ("apart", (), 0, 4))
        self.told(False, right_why, way(5), (), (), ("apart", (), 2, 2))
        self.told(True, right_why, way(5), (), (0, 1), ("apart", (), 0, 4))
        self.told(True, right_why, way(5), (4,), (0, 1), ("apart", (), 0, 4))
        self.told(True, right_why, way(5), (), (0, 1), ("apart", (), 0, 0))
        self.told(False, right_why, way(5), (), (0, 1), ("apart", (), 4, 0))

    def test_a_lot_all_of_which_is_barred_lets_anything_by(self):
        self.told(True, right_why, way(5), (), (0, 1), ("apart", (2, 3, 4), 0, 0))
        self.told(True, right_why, way(5), (), (0, 1), ("apart", (2, 3, 4), 4, 0))
        self.told(True, right_why, way(5), (), (0, 1), ("apart", (), 0, 3))
        self.told(False, right_why, way(5), (), (0, 1), ("apart", (2, 3, 4), 0, 3))

    def test_all_barred(self):
        for web in (way(3), full(3), ring(6), way(60)):
            everything = tuple(range(web[0]))
            for p in everything:
                self.told(True, right_why, web, (), everything, ("bare", p))
                self.told(True, right_why, web, (), everything, ("apart", (), p, 0))
                self.told(False, right_why, web, (), everything, ("apart", (p,), p, 0))

    def test_none_barred(self):
        for web in (way(3), full(3), ring(6), way(60)):
            everything = tuple(range(web[0]))
            for p in everything:
                self.told(False, right_why, web, (), (), ("bare", p))
                self.told(False, right_why, web, everything, (), ("bare", p))
                self.told(False, right_why, web, (), (), ("apart", everything, p, 0))
                self.told(False, right_why, web, (), (), ("apart", (), p, 0))
                self.told(False, right_why, web, everything, (), ("apart", everything, p, 0))

    def test_other_words(self):
        for word in ("", "Bare", "bare ", "BARE", "apart", "part", "over", "b", None, 0, True, ("bare",), ["bare"]):
            self.told(False, right_why, way(4), (), (0, 1), (word, 0))
        for word in ("", "Apart", "apart\n", "bare", "part", "shares", "a", None, 0, True, ("apart",), {"apart": 0}):
            self.told(False, right_why, way(5), (), (2,), (word, (0, 1), 0, 4))

    def test_too_short_or_too_long(self):
        for thing in ((), ("bare",), ("bare", 0, 0), ("bare", 0, 0, 0), ("bare", (), 0, 0), (0,), ("apart", 0)):
            self.told(False, right_why, way(4), (), (0, 1), thing)
        for thing in (("apart",), ("apart", (0, 1)), ("apart", (0, 1), 0), ("apart", (0, 1), 0, 4, 4), ((0, 1), 0, 4)):
            self.told(False, right_why, way(5), (), (2,), thing)

    def test_places_beyond_the_web(self):
        for p in (-1, 4, 60, 10 ** 99, -(10 ** 99), True, False, None, "0", (0,), [0]):
            self.told(False, right_why, way(4), (), (0, 1, 2, 3), ("bare", p))
            self.told(False, right_why, way(4), (), (0, 1, 2, 3), ("apart", (), p, 0))
            self.told(False, right_why, way(4), (), (0, 1, 2, 3), ("apart", (), 0, p))
        for side in ((-1, 0, 1), (0, 1, 5), (0, 1, 10 ** 99), (0, 1, 1), (1, 0), (False, 1), (0, True), (0, 1, None)):
            self.told(False, right_why, way(5), (), (2,), ("apart", side, 0, 4))

    def test_nothing_stands_for_a_tuple(self):
        self.told(False, right_why, way(4), (), (0, 1), ["bare", 0])
        self.told(False, right_why, way(4), (), (0, 1), {"bare": 0})
        self.told(False, right_why, way(4), (), (0, 1), "bare")
        self.told(False, right_why, way(5), (), (2,), ["apart", (0, 1), 0, 4])
        self.told(False, right_why, way(5), (), (2,), ("apart", [0, 1], 0, 4))
        self.told(False, right_why, way(5), (), (2,), ("apart", {0: 0, 1: 1}, 0, 4))
        self.told(False, right_why, way(5), (), (2,), ("apart", "01", 0, 4))
        self.told(False, right_why, way(5), (), (2,), (("apart", (0, 1), 0, 4),))

    def test_all_whys_of_small_webs_and_that_no_set_keeps_the_state(self):
        for web in list(samples.all_webs(3)) + [way(4), star(4, 1), ring(4), (4, ((0, 1), (0, 2), (1, 2), (2, 3)))]:
            sets = judges.busy_sets(web)
            for held, barred in judges.all_states(web[0]):
                none_keeps = not judges.keeping(sets, held, barred)
                for thing in judges.whys_of(web[0]):
                    right = right_why(web, held, barred, thing)
                    self.assertIs(right, judges.is_why(web, held, barred, thing), (web, held, barred, thing))
                    self.assertTrue(none_keeps or not right, (web, held, barred, thing))

    def test_whys_of_webs_of_five_to_nine_places(self):
        for web in judges.small_webs()[3:]:
            n = web[0]
            sets = judges.busy_sets(web)
            for held, barred in judges.some_states(n, 3 ** n // 14):
                none_keeps = not judges.keeping(sets, held, barred)
                kept = [p for p in range(n) if p not in barred]
                for side in itertools.islice(judges.choices(kept), 0, None, 3):
                    for p, q in ((0, n - 1), (n // 2, 0), (n - 1, n // 2)):
                        thing = ("apart", side, p, q)
                        self.judged(web, held, barred, thing)
                        self.assertTrue(none_keeps or not right_why(web, held, barred, thing))

    def test_anything(self):
        for web, held, barred in ((way(3), (), ()), (way(3), (), (0, 1, 2)), (most_ties(200), (0, 5), (1, 59))):
            for thing in samples.odd_things() + samples.great_things():
                self.judged(web, held, barred, thing)
                self.judged(web, held, barred, ("bare", thing))
                self.judged(web, held, barred, ("apart", thing, 0, 1))
                self.judged(web, held, barred, ("apart", (), thing, 1))
                self.judged(web, held, barred, ("apart", (), 0, thing))

    def test_spoilt_whys(self):
        for held, barred, why in (((), (0, 1, 4), ("bare", 0)), ((0,), (2,), ("apart", (0, 1), 0, 4)),
                                  ((), (2, 4), ("apart", (0, 1), 0, 3))):
            self.told(True, right_why, way(5), held, barred, why)
            for thing in samples.spoilt(why):
                self.judged(way(5), held, barred, thing)

    def test_somewhat_beyond_the_bounds(self):
        self.told(True, right_why, way(65), (), (30,), ("apart", tuple(range(30)), 0, 64))
        self.told(True, right_why, (2, ((0, 1),)), (), (0, 1), ("bare", 1))


class WhyNot(Asking):

    def answered(self, web, held, barred, kept):
        """See to it that None is told just where a busy set keeps the state, else a why."""
        why = self.ask(why_not, web, held, barred)
        if kept:
            self.assertIsNone(why, (web, held, barred))
        else:
            self.assertTrue(judges.is_why(web, held, barred, why), (web, held, barred, why))
            self.assertIs(right_why(web, held, barred, why), True)

    def test_where_one_keeps_it(self):
        self.told(None, why_not, way(4), (), ())
        self.told(None, why_not, way(4), (0, 1, 2, 3), ())
        self.told(None, why_not, way(4), (), (0, 3))
        self.told(None, why_not, ring(60), (5,), (0, 59))
        self.told(None, why_not, full(9), (4,), (0, 1, 2, 3, 5, 6, 7, 8))
        self.told(None, why_not, star(60, 30), (), tuple(range(30)) + tuple(range(31, 60)))

    def test_where_none_keeps_it(self):
        for web, held, barred in (
            (way(4), (), (1,)), (way(4), (0,), (1,)), (way(4), (), (0, 1)), (ring(60), (), (0, 30)),
            (way(60), (), (30,)), (ring(60), (), (0, 2)), (star(60), (), (0,)), (star(60), (59,), (0,)),
            (ladder(30), (), (0, 31)), (comb(30), (), (29,)), (comb(30), tuple(range(10)), (29, 59)),
            (way(3), (), (1,)),
        ):
            self.answered(web, held, barred, False)

    def test_none_barred(self):
        for web in judges.small_webs() + judges.great_webs():
            self.told(None, why_not, web, (), ())
            self.told(None, why_not, web, tuple(range(web[0])), ())

    def test_all_barred(self):
        for web in judges.small_webs() + judges.great_webs():
            self.answered(web, (), tuple(range(web[0])), False)

    def test_bare_alone_and_apart_alone(self):
        self.assertEqual(self.ask(why_not, full(3), (), (0, 1, 2))[0], "bare")
        self.assertEqual(self.ask(why_not, way(5), (), (2,))[0], "apart")

    def test_all_states_of_small_webs(self):
        for web in judges.tiny_webs():
            sets = judges.busy_sets(web)
            for held, barred in judges.all_states(web[0]):
                self.answered(web, held, barred, judges.keeping(sets, held, barred))

    def test_states_of_webs_of_three_to_nine_places(self):
        for web in judges.small_webs():
            sets = judges.busy_sets(web)
            for held, barred in judges.some_states(web[0], 1 + 3 ** web[0] // 200):
                self.answered(web, held, barred, judges.keeping(sets, held, barred))

    def test_each_place_barred_of_webs_of_sixty(self):
        for web in judges.great_webs():
            everything = tuple(range(web[0]))
            for place in everything:
                others = everything[:place] + everything[place + 1:]
                self.answered(web, (), (place,), judges.is_busy_set(web, others))

    def test_somewhat_beyond_the_bounds(self):
        self.answered(way(65), (), (30,), False)
        self.answered(way(65), (), (0, 64), True)


if __name__ == "__main__":
    unittest.main()

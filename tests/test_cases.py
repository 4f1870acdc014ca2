"""Cases for a limit (point 16)."""

import itertools
import unittest

from manyleaves.cases import right_cases

import judges
import samples
from samples import Asking, comb, full, ladder, most_ties, ring, star, way

HUGE = 10 ** 99
OVER = ("over",)
THIN = ("thin",)


def ones(web):
    return (1,) * web[0]


class RightCases(Asking):

    def judged(self, web, prices, held, barred, limit, thing):
        right = judges.is_cases(web, prices, held, barred, limit, thing)
        self.told(right, right_cases, web, prices, held, barred, limit, thing)
        return right

    def just_up_to(self, limit, web, prices, held, barred, thing):
        """See to it that a thing is cases for limits up to one, and for none above."""
        for less in (0, limit // 2, limit - 1, limit):
            self.told(True, right_cases, web, prices, held, barred, max(0, less), thing)
        for more in (limit + 1, limit + 2, limit + 100, 60000):
            self.told(False, right_cases, web, prices, held, barred, more, thing)

    def test_over(self):
        self.just_up_to(4, way(4), (2, 3, 4, 5), (0, 1), (), OVER)
        self.just_up_to(4, way(4), (2, 3, 4, 5), (0, 1), (2, 3), OVER)
        self.just_up_to(0, way(4), (1,) * 4, (3,), (), OVER)
        self.just_up_to(59998, way(60), (1000,) * 59 + (999,), tuple(range(60)), (), OVER)
        self.told(False, right_cases, way(4), (1,) * 4, (), (), 0, OVER)
        self.told(False, right_cases, way(4), (1,) * 4, (), (0, 1, 2, 3), 0, OVER)

    def test_a_why(self):
        for limit in (0, 1, 4, 60000):
            self.told(True, right_cases, way(4), (1,) * 4, (), (0, 1), limit, ("bare", 0))
            self.told(False, right_cases, way(4), (1,) * 4, (), (0, 1), limit, ("bare", 1))
            self.told(True, right_cases, way(5), (9,) * 5, (), (2,), limit, ("apart", (0, 1), 0, 4))
            self.told(True, right_cases, way(5), (9,) * 5, (4,), (2,), limit, ("apart", (0, 1), 0, 4))
            self.told(False, right_cases, way(5), (9,) * 5, (), (2,), limit, ("apart", (0, 1), 4, 0))
            self.told(False, right_cases, way(5), (9,) * 5, (), (), limit, ("apart", (0, 1), 0, 4))
            self.told(True, right_cases, way(60), (1,) * 60, (), (30,), limit, ("apart", tuple(range(30)), 0, 59))

    def test_shares(self):
        self.just_up_to(1, way(4), (1,) * 4, (), (), ("shares", ((0, 1, 1), (3, 1, 1))))
        self.just_up_to(5, way(4), (3, 3, 5, 4), (), (), ("shares", ((0, 3, 1), (3, 3, 1))))
        self.just_up_to(2, way(4), (3, 3, 5, 4), (), (), ("shares", ((0, 3, 1),)))
        self.just_up_to(19, ring(60), (1,) * 60, (), (), ("shares", tuple((p, 1, 3) for p in range(60))))
        self.just_up_to(19, way(60), (1,) * 60, (), (), ("shares", tuple((p, 1, 1) for p in range(0, 60, 3))))
        # A worth of five thirds, which is above 1, and one that is a little above 2, or a little below it.
        self.just_up_to(1, ring(5), (1,) * 5, (), (), ("shares", tuple((p, 1, 3) for p in range(5))))
        self.just_up_to(2, way(4), (1, 9, 9, 9), (), (), ("shares", ((0, 1, HUGE), (3, 2, 1))))
        self.just_up_to(1, way(4), (1, 9, 9, 9), (), (), ("shares", ((0, HUGE - 1, HUGE), (3, 1, 1))))

    def test_shares_with_held_and_barred_places(self):
        self.just_up_to(6, way(4), (5, 5, 5, 2), (0,), (), ("shares", ((3, 2, 1),)))
        self.just_up_to(4, way(4), (5, 5, 5, 2), (0,), (), ("shares", ()))
        self.just_up_to(8, way(4), (1, 9, 9, 1), (), (0,), ("shares", ((0, 9, 1),)))
        self.told(False, right_cases, way(4), (1, 9, 9, 1), (), (), 0, ("shares", ((0, 9, 1),)))
        self.told(False, right_cases, way(4), (5, 5, 5, 2), (0,), (), 0, ("shares", ((1, 2, 1),)))
        self.told(False, right_cases, way(4), (1,) * 4, (), (), 0, ("shares", ()))

    def test_shares_that_are_none(self):
        for shares in (((0, 2, 1),), ((0, 2, 2),), ((3, 1, 1), (0, 1, 1)), ((0, 1, 1), (0, 1, 1)), ((0, True, 1),),
                       ((4, 1, 1),), ((0, 1),), (0, 1, 1), [(0, 1, 1)], ([0, 1, 1],), None, 1, "", {}, ((),)):
            self.told(False, right_cases, way(4), (1,) * 4, (), (), 0, ("shares", shares))

    def test_thin(self):
        self.just_up_to(57, way(60), (1,) * 60, (), (), THIN)
        self.just_up_to(57, ring(60), (1,) * 60, (), (), THIN)
        self.just_up_to(0, star(60), (1,) * 60, (), (), THIN)
        self.just_up_to(6, ring(9), (1,) * 9, (0, 1, 2), (), THIN)
        for limit in (0, 1, 60000):
            self.told(True, right_cases, star(60), (1,) * 60, (), (0,), limit, THIN)
            self.told(False, right_cases, star(60), (1,) * 60, (0,), (), limit, THIN)

    def test_thin_where_not_all_prices_are_1(self):
        for web in (way(5), ring(60), star(9)):
            for place in range(web[0]):
                for price in (2, 1000):
                    prices = samples.put_in(ones(web), place, price)
                    self.told(False, right_cases, web, prices, (), (), 0, THIN)
                    self.told(False, right_cases, web, prices, (place,), (), 0, THIN)
                    self.told(False, right_cases, web, prices, (), (place,), 0, THIN)
            self.told(False, right_cases, web, (2,) * web[0], (), (), 0, THIN)
            self.told(True, right_cases, web, ones(web), (), (), 0, THIN)

    def test_a_part(self):
        # With 1 held 3 asks for 2 or 3, with 1 barred 0 is apart.
        one, other = ("shares", ((3, 2, 1),)), ("apart", (0,), 0, 3)
        self.just_up_to(3, way(4), (2,) * 4, (), (), ("part", 1, one, other))
        self.told(False, right_cases, way(4), (2,) * 4, (), (), 3, ("part", 1, other, one))
        self.told(False, right_cases, way(4), (2,) * 4, (), (), 3, ("part", 1, one, one))
        self.told(False, right_cases, way(4), (2,) * 4, (), (), 3, ("part", 1, other, other))
        self.told(False, right_cases, way(4), (2,) * 4, (), (), 3, ("part", 2, one, other))
        self.told(True, right_cases, way(4), (2,) * 4, (0,), (), 3, ("part", 1, OVER, other))
        self.told(False, right_cases, way(4), (2,) * 4, (0,), (), 4, ("part", 1, OVER, other))

    def test_twelve_and_thirteen_places(self):
        for n in (12, 13):
            self.just_up_to(n - 3, ring(n), (1,) * n, (), (), THIN)
            self.just_up_to(n - 3, way(n), (1,) * n, (), (), ("part", 5, THIN, ("apart", (0, 1, 2, 3, 4), 0, n - 1)))
            self.just_up_to(6, full(n), tuple(range(7, 7 + n)), (), (), ("shares", ((n - 1, 7, 1),)))
            self.just_up_to(19, star(n), (5,) * n, (0, 1, 2, 3), (), OVER)
            for limit in (0, n, 60000):
                self.told(True, right_cases, star(n), (5,) * n, (), (0,), limit, ("apart", (1, 2), 2, n - 1))
                self.told(False, right_cases, star(n), (5,) * n, (), (), limit, ("apart", (1, 2), 2, n - 1))

    def test_a_part_of_sixty_places(self):
        thing = ("part", 30, THIN, ("apart", tuple(range(30)), 0, 59))
        self.just_up_to(57, way(60), (1,) * 60, (), (), thing)
        self.told(False, right_cases, ring(60), (1,) * 60, (), (), 57, thing)
        thing = ("part", 30, THIN, ("part", 10, THIN, ("apart", tuple(range(11, 30)), 20, 50)))
        self.just_up_to(57, ring(60), (1,) * 60, (), (), thing)
        self.just_up_to(57, ring(60), (1,) * 60, (), (), ("part", 10, THIN, ("part", 30, THIN, thing[3][3])))

    def test_a_place_that_is_held_or_barred_already(self):
        for held, barred in (((1,), ()), ((), (1,)), ((0, 1), (3,)), ((3,), (1, 2))):
            self.told(False, right_cases, way(4), (1,) * 4, held, barred, 0, ("part", 1, OVER, OVER))
            self.told(False, right_cases, way(4), (1,) * 4, held, barred, 0, ("part", 1, THIN, THIN))
        self.told(True, right_cases, way(4), (1,) * 4, (0,), (3,), 0, ("part", 1, OVER, OVER))
        self.told(True, right_cases, way(4), (1,) * 4, (1,), (), 0, ("part", 0, OVER, OVER))
        # The place is free above, and is held or barred by the first part within.
        for twice in (("part", 1, OVER, OVER), ("part", 1, THIN, THIN)):
            self.told(False, right_cases, way(4), (1,) * 4, (), (), 0, ("part", 1, twice, THIN))
            self.told(False, right_cases, way(4), (1,) * 4, (), (), 0, ("part", 1, THIN, twice))
        # On either side another place may be parted, the same one on both, too.
        self.told(True, right_cases, way(4), (1,) * 4, (), (), 0, ("part", 1, ("part", 2, OVER, OVER),
                                                                   ("part", 2, OVER, THIN)))

    def deep(self, parts, last, order):
        """So many parts in one another, each on the barred side of the one about it."""
        thing = last
        for place in order[:parts][::-1]:
            thing = ("part", place, OVER, thing)
        return thing

    def test_parts_in_one_another_as_deep_as_may_be(self):
        up = tuple(range(60))
        for order in (up, up[::-1]):
            thing = self.deep(60, ("bare", 30), order)
            self.told(True, right_cases, way(60), (1,) * 60, (), (), 0, thing)
            self.told(False, right_cases, way(60), (1,) * 60, (), (), 1, thing)
            self.told(False, right_cases, way(60), (1,) * 60, (), (), 0, self.deep(60, OVER, order))
            self.told(True, right_cases, way(60), (1000,) * 60, (), (), 999, thing)
        thing = self.deep(59, ("shares", ((0, 5, 3), (59, 1, 1))), up)
        self.told(True, right_cases, way(60), (1,) * 60, (), (), 0, thing)
        # Seventy deep: sixty-nine parts and the innermost tuple; there are not so many places.
        order = up + tuple(range(9))
        for last in (("bare", 0), OVER, THIN):
            self.told(False, right_cases, way(60), (1,) * 60, (), (), 0, self.deep(69, last, order))
        # A web somewhat beyond the bounds has so many.
        thing = self.deep(69, ("bare", 30), tuple(range(70)))
        self.told(True, right_cases, way(70), (1,) * 70, (), (), 0, thing)
        self.told(False, right_cases, way(70), (1,) * 70, (), (), 1, thing)

    def test_parts_deep_on_the_held_side(self):
        thing = THIN
        for place in range(59):
            thing = ("part", place, thing, ("apart", tuple(range(place)), 0, 59) if place else THIN)
        self.told(False, right_cases, way(60), (1,) * 60, (), (), 57, thing)
        thing = OVER
        for place in range(1, 59):
            thing = ("part", place, thing, ("apart", tuple(range(place)), 0, 59))
        self.just_up_to(57, way(60), (1,) * 60, (), (), thing)

    def test_many_parts(self):
        thing = THIN
        for place in range(14):
            thing = ("part", place, thing, thing)
        self.assertIs(right_cases(ring(60), (1,) * 60, (), (), 20, thing), True)
        self.assertIs(right_cases(ring(60), (1,) * 60, (), (), 58, thing), False)

    def test_other_words(self):
        for word in ("", "Over", "over ", "over\n", "OVER", "thin", "part", "shares", "bare", None, 0, True, OVER,
                     ["over"], {"over": 0}):
            self.told(False, right_cases, way(4), (1, 2, 1, 1), (0,), (), 0, (word,))
        for word in ("", "Thin", "thin\t", "shares", "apart", None, 1, False, THIN):
            self.told(False, right_cases, way(4), (1,) * 4, (), (), 0, (word,))
        for word in ("", "Shares", "share", "over", "part", "bare", None, 0, ("shares",), ["shares"]):
            self.told(False, right_cases, way(4), (1,) * 4, (), (), 0, (word, ((0, 1, 1),)))
        for word in ("", "Part", "parts", "apart", "over", None, 0, True, ("part",)):
            self.told(False, right_cases, way(4), (1,) * 4, (0,), (), 0, (word, 1, OVER, OVER))

    def test_too_short_or_too_long(self):
        for thing in ((), ("over", 0), ("over", ()), ("over", "over"), ("thin", 0), ("thin", ()), ("shares",),
                      ("shares", ((0, 1, 1),), ()), ("shares", (0, 1, 1)), ("part",), ("part", 1), ("part", 1, OVER),
                      ("part", 1, OVER, OVER, OVER), ("part", OVER, OVER), ("part", 1, OVER, ()), ("part", 1, (), OVER),
                      (OVER,), (1, OVER, OVER), ("bare",), ("apart",)):
            self.told(False, right_cases, way(4), (1,) * 4, (0,), (), 0, thing)

    def test_no_places(self):
        for p in (-1, 4, 60, HUGE, -HUGE, True, False, None, "1", (1,), [1], {1: 1}, "", ()):
            self.told(False, right_cases, way(4), (1,) * 4, (2,), (), 0, ("part", p, OVER, OVER))
            self.told(False, right_cases, way(4), (1,) * 4, (), (0, 1, 2, 3), 0, ("bare", p))

    def test_nothing_stands_for_a_tuple(self):
        for thing in (["over"], {"over": 0}, "over", "thin", ["thin"], ["part", 1, OVER, OVER],
                      ("part", 1, ["over"], OVER), ("part", 1, OVER, ["over"]), ("part", 1, "over", OVER),
                      ("part", 1, OVER, {"over": 0}), ["shares", ((2, 1, 1),)], ("part", 1, None, OVER),
                      ("part", 1, OVER, True)):
            self.told(False, right_cases, way(4), (1,) * 4, (0,), (), 0, thing)

    def test_true_or_false_and_nothing_else(self):
        for thing in (OVER, THIN, ("shares", ((2, 1, 1),)), ("bare", 0), ("part", 1, OVER, OVER)):
            for limit in (0, 60000):
                self.assertIn(repr(right_cases(way(4), (1,) * 4, (0,), (), limit, thing)), ("True", "False"))

    def ends(self, n):
        """Cases of small webs that part nothing, whether right or not."""
        shares = [(), ((0, 1, 1),), ((n - 1, 1, 1),), ((0, 1, 1), (n - 1, 1, 1)), tuple((p, 1, 3) for p in range(n)),
                  tuple((p, 1, 2) for p in range(n)), ((1, 2, 1),), ((1, 5, 2),)]
        return [OVER, THIN] + [("shares", some) for some in shares] + list(judges.whys_of(n))[::5 if n > 3 else 2]

    def test_ends_of_small_webs_against_all_busy_sets(self):
        let_by = 0
        for web in list(samples.all_webs(3)) + [way(4), star(4, 1), ring(4), (4, ((0, 1), (0, 2), (1, 2), (2, 3)))]:
            n = web[0]
            for prices in ((1,) * n, (2, 1, 3, 2)[:n]):
                for held, barred in judges.all_states(n):
                    least = judges.least_kept(web, prices, held, barred)
                    for limit, thing in itertools.product((0, 1, 2, 3, 5, 8), self.ends(n)):
                        right = right_cases(web, prices, held, barred, limit, thing)
                        self.assertIs(right, judges.is_cases(web, prices, held, barred, limit, thing))
                        self.assertTrue(not right or least is None or least > limit, (web, held, barred, thing))
                        let_by += right
        self.assertGreater(let_by, 1000)

    def test_parts_of_small_webs_against_all_busy_sets(self):
        let_by = 0
        for web in (way(3), full(3), way(4), ring(4), (5, ((0, 1), (0, 2), (1, 2), (2, 3), (3, 4)))):
            n = web[0]
            ends = [OVER, THIN, ("shares", ((0, 1, 1),)), ("shares", ((n - 1, 2, 1),)), ("bare", 0), ("bare", n - 1),
                    ("apart", (0,), 0, n - 1), ("apart", (0, 1), 0, n - 1)]
            parts = [("part", v, one, other) for v in range(n) for one in ends for other in ends]
            for prices in ((1,) * n, (2, 1, 3, 2, 2)[:n]):
                for held, barred in judges.some_states(n, 1 + 3 ** n // 20):
                    least = judges.least_kept(web, prices, held, barred)
                    for limit, thing in itertools.product((0, 1, 2, 3), parts):
                        right = right_cases(web, prices, held, barred, limit, thing)
                        self.assertIs(right, judges.is_cases(web, prices, held, barred, limit, thing))
                        self.assertTrue(not right or least is None or least > limit, (web, held, barred, thing))
                        let_by += right
        self.assertGreater(let_by, 1000)

    def plain_cases(self, web, prices, held, barred, limit):
        """Cases by parting the first free place always, None where there are none."""
        for end in (OVER, THIN, *(("bare", p) for p in range(web[0]))):
            if judges.is_cases(web, prices, held, barred, limit, end):
                return end
        free = [p for p in range(web[0]) if p not in held and p not in barred]
        if not free:
            kept = samples.lots(web[0], [tie for tie in web[1] if not set(tie) & set(barred)])
            side = [lot for lot in kept if not set(lot) & set(barred)]
            return ("apart", side[0], side[0][0], side[1][0]) if len(side) > 1 else None
        one = self.plain_cases(web, prices, tuple(sorted(held + (free[0],))), barred, limit)
        other = self.plain_cases(web, prices, held, tuple(sorted(barred + (free[0],))), limit)
        return None if one is None or other is None else ("part", free[0], one, other)

    def test_plain_cases_of_webs_of_three_to_nine_places(self):
        for web in judges.small_webs():
            n = web[0]
            for prices in judges.price_rows(n)[::2]:
                for held, barred in ((), ()), ((0,), ()), ((), (n - 1,)), ((1,), (0,)):
                    least = judges.least_kept(web, prices, held, barred)
                    limit = 60000 if least is None else least - 1
                    thing = self.plain_cases(web, prices, held, barred, limit)
                    self.told(True, right_cases, web, prices, held, barred, limit, thing)
                    if least is not None:
                        self.told(False, right_cases, web, prices, held, barred, least, thing)

    def test_anything(self):
        for web, held, barred in ((way(4), (0,), ()), (full(3), (), (0, 1, 2)), (most_ties(200), (5,), (1, 59))):
            for thing in samples.odd_things() + samples.great_things():
                for cases in (thing, (thing,), ("over", thing), ("thin", thing), ("shares", thing), ("bare", thing),
                              ("apart", thing, 0, 1), ("part", thing, OVER, OVER), ("part", 2, OVER, thing),
                              ("part", 2, thing, OVER)):
                    self.judged(web, (2,) * web[0], held, barred, 0, cases)

    def test_spoilt_cases(self):
        for prices, held, cases in (
            ((1,) * 4, (), ("part", 1, THIN, ("apart", (0,), 0, 3))),
            ((2,) * 4, (), ("part", 1, ("shares", ((3, 2, 1),)), ("apart", (0,), 0, 3))),
            ((2,) * 4, (0,), ("part", 1, OVER, ("part", 2, OVER, ("apart", (0,), 0, 2)))),
        ):
            self.told(True, right_cases, way(4), prices, held, (), 1, cases)
            for thing in samples.spoilt(cases):
                self.judged(way(4), prices, held, (), 1, thing)

    def test_somewhat_beyond_the_bounds(self):
        self.just_up_to(62, way(65), (1,) * 65, (), (), THIN)
        self.told(True, right_cases, way(65), (2000,) * 65, tuple(range(65)), (), 129999, OVER)
        self.told(False, right_cases, way(65), (2000,) * 65, tuple(range(65)), (), 130000, OVER)
        self.told(True, right_cases, way(4), (1,) * 4, (), (), -1, OVER)
        self.told(True, right_cases, comb(3), (0,) * 6, (), (), -1, ("shares", ()))
        self.told(False, right_cases, ladder(3), (0,) * 6, (), (), 0, ("shares", ()))


if __name__ == "__main__":
    unittest.main()

"""Webs and papers led over (point 29)."""

import itertools
import unittest

from manyleaves.apart import right_none
from manyleaves.cases import right_cases
from manyleaves.climbing import climbed, right_stopped
from manyleaves.exact import cheapest_set
from manyleaves.exchanges import rows_of
from manyleaves.led import (led_cases, led_none, led_places, led_prices, led_rows, led_shares, led_tree, led_web,
                            led_why)
from manyleaves.shares import right_shares
from manyleaves.sets import right_set
from manyleaves.trees import right_tree
from manyleaves.twice import climbed_twice, right_stopped_twice, twos_of
from manyleaves.two import two_trees
from manyleaves.whys import right_why, why_not

import judges
import samples
from judges import plain_none, renamed, some_names
from samples import Asking, comb, far_ties, full, ladder, most_ties, ring, star, way

OVER = ("over",)
THIN = ("thin",)
NAMES = (3, 0, 4, 1, 2)
PAPERS = [
    (led_places, (0, 1, 3)), (led_tree, ((0, 1), (0, 4), (1, 2), (2, 3))), (led_web, ring(5)),
    (led_prices, (7, 8, 9, 10, 11)), (led_why, ("bare", 2)), (led_why, ("apart", (0, 2, 4), 1, 3)),
    (led_shares, ((0, 1, 2), (1, 5, 3), (4, 2, 1))), (led_cases, OVER), (led_cases, THIN),
    (led_cases, ("part", 2, ("shares", ((0, 1, 2), (4, 2, 1))), ("part", 0, THIN, ("apart", (1, 3), 4, 0)))),
    (led_none, ("part", 2, ("bare", 1, 0), ("part", 4, ("apart", 0, (0, 1, 3), 4, 2), ("bare", 0, 1)))),
    (led_rows, (((0, 1), (2, 4), 3), ((0, 3), (1, 2), 2))),
    (led_rows, (((0, 1), (2, 4), (0, 4), (1, 3), 3), ((0, 3), (1, 2), (0, 3), (2, 4), 2))),
]


def back(names):
    """The names that lead back."""
    return tuple(names.index(place) for place in range(len(names)))


def behind(names, others):
    """The names of one renaming behind another."""
    return tuple(others[name] for name in names)


class Led(Asking):

    def test_places(self):
        self.told((0, 1, 3), led_places, (0, 1, 3), NAMES)
        self.told((1, 2, 3), led_places, (0, 3, 4), NAMES)
        self.told((), led_places, (), NAMES)
        self.told((0, 1, 2, 3, 4), led_places, (0, 1, 2, 3, 4), NAMES)

    def test_tree(self):
        self.told(((0, 3), (0, 4), (1, 4), (2, 3)), led_tree, ((0, 1), (0, 4), (1, 2), (2, 3)), NAMES)
        self.told((), led_tree, (), NAMES)

    def test_web(self):
        self.told((5, ((0, 3), (0, 4), (1, 2), (1, 4), (2, 3))), led_web, ring(5), NAMES)
        for web in judges.small_webs() + judges.webs_of(12) + judges.great_webs():
            for names in some_names(web[0]):
                self.told(renamed(web, names), led_web, web, names)

    def test_prices(self):
        self.told((8, 10, 11, 7, 9), led_prices, (7, 8, 9, 10, 11), NAMES)
        for names in itertools.permutations(range(4)):
            led = led_prices((5, 6, 7, 8), names)
            self.assertEqual([led[names[p]] for p in range(4)], [5, 6, 7, 8])

    def test_why(self):
        self.told(("bare", 4), led_why, ("bare", 2), NAMES)
        self.told(("apart", (2, 3, 4), 0, 1), led_why, ("apart", (0, 2, 4), 1, 3), NAMES)
        self.told(("apart", (), 1, 0), led_why, ("apart", (), 3, 1), NAMES)

    def test_shares(self):
        self.told(((0, 5, 3), (2, 2, 1), (3, 1, 2)), led_shares, ((0, 1, 2), (1, 5, 3), (4, 2, 1)), NAMES)
        self.told((), led_shares, (), NAMES)

    def test_cases(self):
        self.told(OVER, led_cases, OVER, NAMES)
        self.told(THIN, led_cases, THIN, NAMES)
        self.told(("shares", ((2, 2, 1), (3, 1, 2))), led_cases, ("shares", ((0, 1, 2), (4, 2, 1))), NAMES)
        self.told(("bare", 0), led_cases, ("bare", 1), NAMES)
        self.told(("apart", (0, 1), 2, 3), led_cases, ("apart", (1, 3), 4, 0), NAMES)
        self.told(("part", 4, OVER, ("part", 3, ("bare", 2), ("shares", ()))), led_cases,
                  ("part", 2, OVER, ("part", 0, ("bare", 4), ("shares", ()))), NAMES)

    def test_cases_for_none_apart(self):
        self.told(("bare", 1, 3), led_none, ("bare", 1, 0), NAMES)
        self.told(("bare", 0, 3), led_none, ("bare", 0, 0), NAMES)
        self.told(("apart", 1, (0, 1, 3), 2, 4), led_none, ("apart", 1, (0, 1, 3), 4, 2), NAMES)
        self.told(("part", 0, ("bare", 0, 0), ("part", 1, ("apart", 0, (), 3, 0), ("bare", 1, 2))), led_none,
                  ("part", 1, ("bare", 0, 1), ("part", 3, ("apart", 0, (), 0, 1), ("bare", 1, 4))), NAMES)

    def test_rows(self):
        self.told((((0, 3), (2, 4), 3), ((1, 3), (0, 4), 2)), led_rows,
                  (((0, 1), (2, 4), 3), ((0, 3), (1, 2), 2)), NAMES)
        self.told((((0, 4), (1, 3), 2), ((2, 3), (0, 1), 1)), led_rows,
                  (((0, 4), (1, 3), 1), ((1, 2), (0, 3), 2)), NAMES)
        self.told((((0, 3), (2, 4), (2, 3), (0, 1), 3), ((1, 3), (0, 4), (1, 3), (2, 4), 2)), led_rows,
                  (((0, 1), (2, 4), (0, 4), (1, 3), 3), ((0, 3), (1, 2), (0, 3), (2, 4), 2)), NAMES)
        self.told((), led_rows, (), NAMES)

    def test_rows_that_differ_late(self):
        rows = (((0, 1), (0, 2), (0, 3), (1, 4), 2), ((0, 1), (0, 2), (0, 3), (2, 4), 3),
                ((0, 1), (0, 2), (1, 3), (1, 4), 1))
        for names in itertools.permutations(range(5)):
            led = self.ask(led_rows, rows, names)
            self.assertEqual(led, tuple(sorted(led)))
            self.assertEqual(self.ask(led_rows, led, back(names)), rows)

    def test_names_as_they_are(self):
        for deed, paper in PAPERS:
            self.told(paper, deed, paper, (0, 1, 2, 3, 4))

    def test_there_and_back(self):
        for deed, paper in PAPERS:
            for names in itertools.permutations(range(5)):
                self.told(paper, deed, deed(paper, names), back(names))

    def test_one_behind_another(self):
        for deed, paper in PAPERS:
            for names in itertools.permutations(range(5)):
                self.told(deed(paper, behind(names, NAMES)), deed, deed(paper, names), NAMES)
                self.told(deed(paper, behind(NAMES, names)), deed, deed(paper, NAMES), names)

    def test_turned_about(self):
        self.told((way(60)), led_web, way(60), tuple(range(60))[::-1])
        self.told((56, 58, 59), led_places, (0, 1, 3), tuple(range(60))[::-1])
        self.told(("apart", tuple(range(30, 60)), 59, 0), led_why, ("apart", tuple(range(30)), 0, 59),
                  tuple(range(60))[::-1])

    def test_cases_as_deep_as_may_be(self):
        cases, none = ("bare", 30), ("bare", 1, 30)
        led, led_over = ("bare", 29), ("bare", 1, 29)
        for place in range(60):
            cases, none = ("part", place, OVER, cases), ("part", place, ("bare", 0, 5), none)
            led, led_over = ("part", 59 - place, OVER, led), ("part", 59 - place, ("bare", 0, 54), led_over)
        self.told(led, led_cases, cases, tuple(range(60))[::-1])
        self.told(led_over, led_none, none, tuple(range(60))[::-1])

    def test_somewhat_beyond_the_bounds(self):
        names = tuple(range(65))[::-1]
        self.told(way(65), led_web, way(65), names)
        self.told(tuple(range(65)), led_prices, names, names)


def most_names(n):
    """Ways of renaming n places: all of few, some of many."""
    return list(itertools.permutations(range(n))) if n < 5 else list(some_names(n))


class JudgedAlike(Asking):
    """What a checker tells of a paper it tells of the one led over, right ones and wrong ones."""

    def test_places_and_trees(self):
        for web in (ring(4), judges.STUCK, ladder(3)):
            n = web[0]
            for names in most_names(n):
                led = led_web(web, names)
                for some in judges.choices(range(n)):
                    self.assertIs(right_set(led, led_places(some, names)), right_set(web, some))
                for ties in itertools.islice(itertools.combinations(full(n)[1], n - 1), 0, None, 5):
                    self.assertIs(right_tree(led, led_tree(ties, names)), right_tree(web, ties))

    def test_whys(self):
        told = []
        for web in (way(4), ring(4), star(4, 2), (4, ((0, 1), (0, 2), (1, 2), (2, 3)))):
            for names in most_names(4)[::5]:
                led = led_web(web, names)
                for held, barred in itertools.islice(judges.all_states(4), 0, None, 3):
                    for why in list(judges.whys_of(4))[::4]:
                        right = right_why(web, held, barred, why)
                        told.append(right)
                        state = led_places(held, names), led_places(barred, names)
                        self.assertIs(right_why(led, *state, led_why(why, names)), right)
        self.assertTrue(told.count(True) > 100 and told.count(False) > 100)

    def test_whys_of_sixty_places(self):
        web = way(60)
        for names in some_names(60):
            for held, barred in (((), (30,)), ((0,), (1, 2)), ((), (0, 1)), ((59,), (58,))):
                why = why_not(web, held, barred)
                state = led_places(held, names), led_places(barred, names)
                self.assertIs(right_why(led_web(web, names), *state, led_why(why, names)), True)
                self.assertIs(right_why(led_web(ring(60), names), *state, led_why(why, names)),
                              right_why(ring(60), held, barred, why))

    def test_shares(self):
        told = []
        for web in (way(4), ring(5), judges.STUCK, comb(3), judges.mixed(12, 4)):
            n = web[0]
            for names, prices in itertools.product(most_names(n)[::3], judges.price_rows(n)[::2]):
                for held, barred in judges.some_states(n, 3 ** n // 20):
                    for shares in some_shares(n):
                        right = right_shares(web, prices, held, barred, shares)
                        told.append(right)
                        state = led_prices(prices, names), led_places(held, names), led_places(barred, names)
                        self.assertIs(right_shares(led_web(web, names), *state, led_shares(shares, names)), right)
        self.assertTrue(told.count(True) > 100 and told.count(False) > 100)

    def test_cases(self):
        told = []
        for web in (way(4), ring(5), judges.STUCK, ladder(3), judges.mixed(9, 5), judges.mixed(12, 4)):
            n = web[0]
            for prices in judges.price_rows(n)[::2]:
                for held, barred in ((), ()), ((0,), ()), ((), (n - 1,)), ((1,), (2,)):
                    if why_not(web, held, barred) is None:
                        busy, cases = cheapest_set(web, prices, held, barred)
                        least = judges.price(prices, busy)
                        for limit, paper in ((least - 1, cases), (least, cases), (0, OVER), (least - 1, THIN)):
                            told += self.cases_alike(web, prices, held, barred, limit, paper)
        self.assertTrue(told.count(True) > 50 and told.count(False) > 50)

    def cases_alike(self, web, prices, held, barred, limit, cases):
        right = right_cases(web, prices, held, barred, limit, cases)
        for names in list(some_names(web[0]))[1:]:
            state = led_prices(prices, names), led_places(held, names), led_places(barred, names), limit
            self.assertIs(right_cases(led_web(web, names), *state, led_cases(cases, names)), right)
        return [right]

    def test_cases_that_are_wrong_within(self):
        web, prices = way(4), (2,) * 4
        ends = [OVER, THIN, ("shares", ((3, 2, 1),)), ("shares", ((0, 1, 1), (3, 2, 1))), ("bare", 0), ("bare", 2),
                ("apart", (0,), 0, 3), ("apart", (2, 3), 3, 0)]
        told = []
        for place, one, other in itertools.product(range(4), ends, ends):
            told += self.cases_alike(web, prices, (), (), 3, ("part", place, one, other))
            told += self.cases_alike(web, prices, (0,), (), 3, ("part", place, one, other))
        self.assertTrue(told.count(True) > 5 and told.count(False) > 100)

    def test_cases_for_none_apart_where_0_stays_0(self):
        told = []
        for web in (way(3), star(4), star(4, 2), ring(4), ring(5), comb(3), judges.STUCK, judges.mixed(8, 4), way(12)):
            n = web[0]
            papers = [paper for paper in (plain_none(web), plain_none(way(n)), plain_none(star(n))) if paper]
            if n <= 12 and two_trees(web)[0] == "none":
                papers.append(two_trees(web)[1])
            for names in [names for names in most_names(n - 1)]:
                names = (0,) + tuple(name + 1 for name in names)
                for paper in papers:
                    right = right_none(web, paper)
                    told.append(right)
                    self.assertIs(right_none(led_web(web, names), led_none(paper, names)), right)
        self.assertTrue(told.count(True) > 20 and told.count(False) > 20)

    def test_ends_for_none_apart(self):
        told = []
        for web in (star(4), way(4), ring(4), star(4, 1)):
            for rest in itertools.permutations((1, 2, 3)):
                names = (0,) + rest
                led = led_web(web, names)
                for colour, why in itertools.product((0, 1), judges.whys_of(4)):
                    paper = why[:1] + (colour,) + why[1:]
                    told.append(right_none(web, paper))
                    self.assertIs(right_none(led, led_none(paper, names)), told[-1])
                    paper = ("part", 2, paper, ("apart", 1, (1,), 1, 3))
                    told.append(right_none(web, paper))
                    self.assertIs(right_none(led, led_none(paper, names)), told[-1])
        self.assertTrue(told.count(True) > 20 and told.count(False) > 20)

    def rows_alike(self, web, tree, rows):
        right = right_stopped(web, tree, rows)
        for names in list(some_names(web[0]))[1:]:
            led = led_web(web, names)
            self.assertIs(right_stopped(led, led_tree(tree, names), led_rows(rows, names)), right)
        return [right]

    def test_rows_of_one_exchange(self):
        told = []
        for web in (ring(4), judges.STUCK, ladder(3), judges.mixed(7, 3), judges.mixed(12, 4)):
            for tree in (samples.some_tree(web), climbed(web, samples.some_tree(web))[1]):
                rows = rows_of(web, tree)
                for names in some_names(web[0]):
                    self.assertEqual(led_rows(rows, names), rows_of(led_web(web, names), led_tree(tree, names)))
                wrong = tuple(row[:2] + (row[2] - 1,) for row in rows)
                for paper in (rows, rows[1:], rows[:-1], wrong, ()):
                    told += self.rows_alike(web, tree, paper)
        self.assertTrue(told.count(True) > 3 and told.count(False) > 10)

    def test_rows_of_sixty_places(self):
        for web in (ring(60), far_ties(200), most_ties(200)):
            tree = climbed(web, way(60)[1])[1]
            told = self.rows_alike(web, tree, rows_of(web, tree)) + self.rows_alike(web, tree, rows_of(web, tree)[1:])
            self.assertEqual(told, [True, False])

    def test_rows_of_two_exchanges(self):
        told = []
        for web in (ring(4), judges.STUCK, (6, ((0, 1), (0, 2), (1, 2), (2, 3), (3, 4), (3, 5), (4, 5)))):
            for tree in (samples.some_tree(web), climbed_twice(web, samples.some_tree(web))[1]):
                rows, twos = rows_of(web, tree), twos_of(web, tree)
                for paper in ((rows, twos), (rows, twos[1:]), (rows[1:], twos), (rows, rows), (twos, twos)):
                    right = right_stopped_twice(web, tree, paper)
                    told.append(right)
                    for names in some_names(web[0]):
                        led, led_one = led_web(web, names), led_tree(tree, names)
                        self.assertEqual(led_rows(twos, names), twos_of(led, led_one))
                        thing = (led_rows(paper[0], names), led_rows(paper[1], names))
                        self.assertIs(right_stopped_twice(led, led_one, thing), right)
        self.assertTrue(told.count(True) > 2 and told.count(False) > 10)


def some_shares(n):
    """Things of the form of shares, whether right or not."""
    return [(), ((0, 1, 1),), ((n - 1, 3, 2),), ((0, 1, 1), (n - 1, 1, 1)), tuple((p, 1, 3) for p in range(n)),
            tuple((p, 1 + p, 4) for p in range(0, n, 2)), ((1, 2, 4),), ((0, 1, 3), (0, 1, 2)),
            ((1, 9, 2), (2, 1, 5))]


if __name__ == "__main__":
    unittest.main()

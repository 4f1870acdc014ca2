"""Webs (points 4 and 5)."""

import itertools
import unittest

from manyleaves.errors import NoWeb
from manyleaves.webs import check_web, neighbours, pieces, touched

import samples
from samples import Asking, comb, few_webs, full, ladder, most_ties, ring, star, way


class CheckWeb(Asking):

    def let_by(self, thing):
        self.told(None, check_web, thing)

    def refused(self, thing):
        ahead = repr(thing)
        for time in range(2):
            with self.assertRaises(NoWeb) as caught:
                check_web(thing)
            self.assertIs(type(caught.exception), NoWeb)
        self.assertEqual(repr(thing), ahead)

    def judged(self, thing):
        if samples.is_web(thing):
            self.let_by(thing)
        else:
            self.refused(thing)

    def test_ordinary(self):
        for web in few_webs():
            self.let_by(web)

    def test_all_sets_of_ties_of_three_and_four_places(self):
        for n in (3, 4):
            ties = full(n)[1]
            for k in range(len(ties) + 1):
                for some in itertools.combinations(ties, k):
                    self.judged((n, some))

    def test_three_places_and_fewer(self):
        self.let_by((3, ((0, 1), (1, 2))))
        self.let_by(full(3))
        self.refused((2, ((0, 1),)))
        self.refused((1, ()))
        self.refused((0, ()))
        self.refused((-3, ()))

    def test_sixty_places_and_one_more(self):
        self.let_by(way(60))
        self.refused(way(61))
        self.let_by(ring(60))
        self.refused(ring(61))
        self.refused((10 ** 99, way(60)[1]))

    def test_two_hundred_ties_and_one_more(self):
        self.assertEqual(len(most_ties(200)[1]), 200)
        self.let_by(most_ties(200))
        self.refused(most_ties(201))
        self.let_by((21, full(21)[1][:200]))
        self.refused((21, full(21)[1][:201]))
        self.refused(full(21))

    def test_two_pieces(self):
        self.refused((4, ((0, 1), (2, 3))))
        self.refused((4, ((0, 1), (0, 2), (1, 2))))
        self.refused((4, ((1, 2), (1, 3), (2, 3))))
        self.refused((60, way(60)[1][1:]))
        self.refused((60, way(60)[1][:30] + way(60)[1][31:]))
        self.refused((3, ()))

    def test_ties_turned_twice_out_of_order_beyond(self):
        self.refused((3, ((1, 0), (1, 2))))
        self.refused((3, ((0, 1), (0, 1), (1, 2))))
        self.refused((3, ((1, 2), (0, 1))))
        self.refused((4, ((0, 2), (0, 1), (2, 3))))
        self.refused((3, ((0, 1), (1, 2), (2, 3))))
        self.refused((3, ((0, 1), (1, 2), (1, 10 ** 99))))
        self.refused((3, ((-1, 0), (0, 1), (1, 2))))
        self.refused((3, ((0, 0), (0, 1), (1, 2))))
        self.refused((3, ((0, 1), (1, 1), (1, 2))))

    def test_true_and_false_are_no_places(self):
        self.refused((3, ((0, True), (1, 2))))
        self.refused((3, ((False, 1), (1, 2))))
        self.refused((3, ((0, 1), (True, 2))))
        self.refused((True, ((0, 1), (1, 2))))

    def test_nothing_stands_for_a_tuple(self):
        self.refused([3, ((0, 1), (1, 2))])
        self.refused((3, [(0, 1), (1, 2)]))
        self.refused((3, ([0, 1], [1, 2])))
        self.refused((3, {(0, 1): None, (1, 2): None}))
        self.refused((3, ({0: 0, 1: 1}, (1, 2))))
        self.refused((3, ("01", "12")))
        self.refused("ab")

    def test_more_or_fewer_in_a_tuple(self):
        self.refused((3, ((0, 1), (1, 2)), ()))
        self.refused((3,))
        self.refused(())
        self.refused((3, ((0, 1, 2), (1, 2))))
        self.refused((3, ((0,), (0, 1), (1, 2))))

    def test_anything(self):
        for thing in samples.odd_things() + samples.great_things():
            self.judged(thing)

    def test_spoilt_webs(self):
        for web in (way(3), full(3), ring(4), star(5, 2), ladder(3)):
            for thing in samples.spoilt(web):
                self.judged(thing)


class Neighbours(Asking):

    def test_ordinary(self):
        web = (5, ((0, 1), (0, 4), (1, 2), (2, 3), (2, 4)))
        self.told((1, 4), neighbours, web, 0)
        self.told((0, 2), neighbours, web, 1)
        self.told((1, 3, 4), neighbours, web, 2)
        self.told((2,), neighbours, web, 3)
        self.told((0, 2), neighbours, web, 4)

    def test_ends_and_middle_of_a_way(self):
        self.told((1,), neighbours, way(60), 0)
        self.told((29, 31), neighbours, way(60), 30)
        self.told((58,), neighbours, way(60), 59)

    def test_just_those_of_the_ties(self):
        for web in few_webs():
            for place in range(web[0]):
                others = [q for q in range(web[0]) if (q, place) in web[1] or (place, q) in web[1]]
                self.told(tuple(others), neighbours, web, place)

    def test_somewhat_beyond_the_bounds(self):
        self.told((0,), neighbours, (2, ((0, 1),)), 1)
        self.told(tuple(range(1, 25)), neighbours, full(25), 0)


class Touched(Asking):

    def test_none(self):
        for web in few_webs():
            self.told((), touched, web, ())

    def test_all(self):
        for web in few_webs():
            self.told((), touched, web, tuple(range(web[0])))

    def test_ordinary(self):
        self.told((2, 4), touched, ring(5), (0, 1))
        self.told((1, 3, 4), touched, ring(5), (0, 2))
        self.told((0, 2, 57, 59), touched, way(60), (1, 58))
        self.told((58,), touched, way(60), (59,))
        self.told((0,), touched, star(9), (3, 5))
        self.told((0, 2, 5), touched, comb(4), (1, 6))

    def test_all_choices_in_small_webs(self):
        for web in list(samples.all_webs(4)) + list(samples.all_webs(5))[::7]:
            n, ties = web
            for k in range(n + 1):
                for some in itertools.combinations(range(n), k):
                    found = {a for a, b in ties if b in some} | {b for a, b in ties if a in some}
                    self.told(tuple(sorted(found - set(some))), touched, web, some)

    def test_somewhat_beyond_the_bounds(self):
        self.told((1, 64), touched, ring(65), (0,))


class Pieces(Asking):

    def test_none(self):
        for web in few_webs():
            self.told((), pieces, web, ())

    def test_all(self):
        for web in few_webs():
            self.told((tuple(range(web[0])),), pieces, web, tuple(range(web[0])))

    def test_one_place(self):
        self.told(((59,),), pieces, way(60), (59,))
        self.told(((2,),), pieces, full(4), (2,))

    def test_ordinary(self):
        self.told(((0, 1), (3,)), pieces, ring(5), (0, 1, 3))
        self.told(((0, 1, 4), (2,)), pieces, (5, ((0, 1), (0, 3), (1, 4), (2, 3))), (0, 1, 2, 4))
        self.told(((1,), (2,), (3,)), pieces, star(4), (1, 2, 3))
        self.told(((0, 1, 2, 3),), pieces, star(4), (0, 1, 2, 3))

    def test_each_second_place_of_a_way(self):
        self.told(tuple((i,) for i in range(0, 60, 2)), pieces, way(60), tuple(range(0, 60, 2)))

    def test_by_their_first_ones(self):
        web = (6, ((0, 5), (1, 4), (2, 3), (2, 5), (3, 4)))
        self.told(((0, 5), (1, 4), (3,)), pieces, (6, ((0, 5), (1, 4), (2, 3), (2, 4), (2, 5))), (0, 1, 3, 4, 5))
        self.told(((0, 5), (1, 3, 4)), pieces, web, (0, 1, 3, 4, 5))

    def test_all_choices_in_small_webs(self):
        for web in list(samples.all_webs(4)) + list(samples.all_webs(5))[::7]:
            n, ties = web
            for k in range(n + 1):
                for some in itertools.combinations(range(n), k):
                    between = [tie for tie in ties if tie[0] in some and tie[1] in some]
                    wanted = tuple(lot for lot in samples.lots(n, between) if lot[0] in some)
                    self.told(wanted, pieces, web, some)

    def test_somewhat_beyond_the_bounds(self):
        self.told(((0, 64), (2,)), pieces, ring(65), (0, 2, 64))
        self.told(((0, 1),), pieces, (2, ((0, 1),)), (0, 1))


if __name__ == "__main__":
    unittest.main()

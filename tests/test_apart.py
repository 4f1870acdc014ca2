"""Two trees apart (point 25), and cases for none apart (point 26)."""

import ast
import itertools
import unittest

from manyleaves.apart import right_none, right_two

import judges
import samples
from judges import plain_none, sides
from samples import Asking, all_webs, comb, far_ties, full, ladder, most_ties, ring, star, way

HUGE = 10 ** 99


class RightTwo(Asking):

    def judged(self, web, thing):
        right = judges.is_two(web, thing)
        self.told(right, right_two, web, thing)
        return right

    def test_ordinary(self):
        one, other = ((0, 1), (0, 3), (1, 2)), ((0, 3), (1, 2), (2, 3))
        self.told(True, right_two, ring(4), (one, other))
        self.told(True, right_two, ring(4), (other, one))
        self.told(True, right_two, full(4), (star(4)[1], star(4, 3)[1]))
        self.told(True, right_two, full(20), (star(20, 7)[1], star(20, 19)[1]))

    def test_the_same_tree_twice(self):
        for web, tree in ((way(3), way(3)[1]), (full(4), star(4)[1]), (ring(60), way(60)[1]), (star(60), star(60)[1])):
            self.told(False, right_two, web, (tree, tree))

    def test_trees_that_share_just_one_busy_place(self):
        self.told(False, right_two, ring(4), (((0, 1), (0, 3), (1, 2)), ((0, 1), (1, 2), (2, 3))))
        for p, q, r, s in itertools.permutations(range(5), 4):
            self.told(True, right_two, full(5), (tree_of_two(5, p, q), tree_of_two(5, r, s)))
            self.told(False, right_two, full(5), (tree_of_two(5, p, q), tree_of_two(5, q, s)))
            self.told(False, right_two, full(5), (tree_of_two(5, p, q), tree_of_two(5, r, p)))
        web = sides(2, 58)
        one, other, third = sides_tree(58, 0, 2), sides_tree(58, 1, 59), sides_tree(58, 1, 2)
        self.told(True, right_two, web, (one, other))
        self.told(False, right_two, web, (one, third))
        self.told(False, right_two, web, (third, other))

    def test_trees_with_the_same_leaves_but_one(self):
        one, other = ((0, 1), (0, 2), (0, 3), (3, 4)), ((0, 1), (1, 2), (1, 3), (1, 4))
        self.told(True, right_two, full(5), (one, other))
        self.told(False, right_two, full(5), (((0, 1), (0, 2), (1, 3), (3, 4)), other))

    def test_all_pairs_of_trees_of_small_webs(self):
        found = 0
        for web in list(all_webs(3)) + list(all_webs(4)) + [ring(5), sides(2, 3), judges.STUCK]:
            for pair in itertools.product(judges.trees_of(web), repeat=2):
                found += self.judged(web, pair)
        self.assertGreater(found, 100)

    def test_no_trees_of_the_web(self):
        one, other = ((0, 1), (0, 3), (1, 2)), ((0, 3), (1, 2), (2, 3))
        for tree in (one[1:], one + ((2, 3),), ((0, 1), (0, 2), (0, 3)), ((0, 1), (1, 2), (2, 4)), one[::-1],
                     ((1, 0), (0, 3), (1, 2)), ((0, 1), (0, 1), (0, 3)), (), None, "", list(one), (0, 1, 2),
                     ((0, True), (0, 3), (1, 2)), ((False, 1), (0, 3), (1, 2)), ([0, 1], (0, 3), (1, 2))):
            self.told(False, right_two, ring(4), (tree, other))
            self.told(False, right_two, ring(4), (other, tree))

    def test_no_pairs(self):
        one, other = ((0, 1), (0, 3), (1, 2)), ((0, 3), (1, 2), (2, 3))
        for thing in ((), (one,), (one, other, one), (one, other, ()), [one, other], {one: other}, {0: one, 1: other},
                      one, one + other, ("two", one, other), ((one, other),), None, True, "", HUGE, (None, None)):
            self.told(False, right_two, ring(4), thing)

    def test_sixty_places(self):
        for web in judges.great_webs() + [far_ties(200)]:
            tree = samples.some_tree(web)
            last = tuple(sorted(samples.some_tree((60, web[1][::-1]))))
            for pair in ((tree, tree), (tree, last), (last, tree)):
                self.judged(web, pair)

    def test_thirteen_and_fourteen_places(self):
        self.told(True, right_two, full(13), (star(13, 12)[1], star(13, 5)[1]))
        self.told(True, right_two, sides(7, 7), (sides_tree(7, 0, 7, 7), sides_tree(7, 6, 13, 7)))
        self.told(False, right_two, sides(7, 7), (sides_tree(7, 0, 7, 7), sides_tree(7, 6, 7, 7)))

    def test_anything(self):
        tree = ((0, 1), (0, 3), (1, 2))
        for web in (ring(4), full(3), most_ties(200)):
            for thing in samples.odd_things() + samples.great_things():
                for some in (thing, (thing, thing), (thing, tree), (tree, thing), (tree, (thing,))):
                    self.judged(web, some)

    def test_spoilt_pairs(self):
        pair = (((0, 1), (0, 3), (1, 2)), ((0, 3), (1, 2), (2, 3)))
        for thing in samples.spoilt(pair):
            self.judged(ring(4), thing)

    def test_somewhat_beyond_the_bounds(self):
        self.told(False, right_two, way(65), (way(65)[1], way(65)[1]))
        self.told(True, right_two, full(21), (star(21)[1], star(21, 20)[1]))
        self.told(True, right_two, (2, ((0, 1),)), (((0, 1),), ((0, 1),)))


def tree_of_two(n, p, q):
    """A tree of a full web with two busy places: all but two of the others hang on p, one on q."""
    last = [r for r in range(n) if r not in (p, q)][-1]
    ties = {(p, r) for r in range(n) if r not in (p, last)} | {(q, last)}
    return tuple(sorted((min(tie), max(tie)) for tie in ties))


def sides_tree(b, p, q, a=2):
    """A tree of two sides, of a and b places, with the busy places p of the one side and q of the other."""
    ties = {(p, a + y) for y in range(b)} | {(x, q) for x in range(a)}
    return tuple(sorted(ties))


class RightNone(Asking):

    def judged(self, web, thing):
        right = judges.is_none(web, thing)
        self.told(right, right_none, web, thing)
        return right

    def test_bare(self):
        # 1 has the one neighbour 0: if both have colour 0, 1 has nothing of colour 1 in its lot.
        bare, star_of_two = ("bare", 1, 1), ("apart", 1, (1,), 1, 2)
        thing = ("part", 1, bare, ("part", 2, ("bare", 1, 2), star_of_two))
        self.told(True, right_none, star(3), thing)
        for wrong in (("bare", 0, 1), ("bare", 1, 0), ("bare", 1, 2), ("bare", 2, 1), ("bare", -1, 1)):
            self.told(False, right_none, star(3), ("part", 1, wrong, thing[3]))
        self.told(False, right_none, star(3), ("part", 1, thing[3], bare))
        self.told(False, right_none, star(3), bare)

    def test_bare_of_colour_0(self):
        # In a way 2 and 1 have colour 1: nothing of colour 0 is in the lot of 2.
        end = ("bare", 0, 2)
        thing = ("part", 1, ("part", 2, ("bare", 1, 1), ("part", 1, end, end)), ("part", 2, ("bare", 0, 0), end))
        self.told(False, right_none, way(3), thing)
        self.told(True, right_none, way(3), ("part", 1, ("part", 2, ("bare", 1, 1), ("bare", 1, 0)),
                                             ("part", 2, ("apart", 0, (0,), 0, 2), end)))
        self.told(False, right_none, way(3), ("part", 1, ("part", 2, ("bare", 1, 1), ("bare", 1, 0)),
                                              ("part", 2, end, end)))

    def test_apart(self):
        # If 1 has colour 1, and 0 colour 0, then 0 and what hangs on 2 are apart without 1.
        one = ("bare", 1, 0)
        self.told(True, right_none, way(3), ("part", 1, one, ("apart", 0, (0,), 0, 2)))
        self.told(True, right_none, way(4), ("part", 1, one, ("apart", 0, (0,), 0, 3)))
        self.told(True, right_none, way(4), ("part", 1, one, ("apart", 0, (2, 3), 3, 0)))
        for wrong in (("apart", 1, (0,), 0, 3), ("apart", 0, (0, 1), 0, 3), ("apart", 0, (2,), 3, 0),
                      ("apart", 0, (0,), 3, 0), ("apart", 0, (3, 2), 3, 0), ("apart", 0, (2, 2, 3), 3, 0),
                      ("apart", 0, (), 3, 0), ("apart", (0,), 0, 3), ("apart", 0, 0, (0,), 3)):
            self.told(False, right_none, way(4), ("part", 1, one, wrong))

    def test_an_apart_one_of_colour_1(self):
        # In a ring of six 1 and 4 have colour 1, and 0, 2 and 3 between them colour 0.
        web = ring(6)
        rest = [plain_none(web, (0, 1), ()), plain_none(web, (0, 2, 4), (1,)), plain_none(web, (0,), (1, 2))]
        for end, right in (
            (("apart", 1, (1,), 1, 4), True), (("apart", 1, (4, 5), 4, 1), True), (("apart", 1, (1,), 2, 4), True),
            (("apart", 1, (1,), 4, 1), False), (("apart", 0, (1,), 1, 4), False), (("apart", 1, (4,), 4, 1), False),
            (("apart", 1, (1, 2), 1, 4), False), (("apart", 1, (1,), 1, 2), False), (("apart", 1, (1,), 3, 4), False),
        ):
            self.assertIs(judges.is_coloured(web, (0, 2, 3), (1, 4), end), right)
            three = ("part", 3, end, ("apart", 1, (1,), 1, 3))
            thing = ("part", 1, rest[0], ("part", 2, ("part", 4, rest[1], three), rest[2]))
            self.told(right, right_none, web, thing)

    def test_the_two_colours_are_told_apart(self):
        for web in (ring(6), ring(9), way(7), comb(4)):
            thing = plain_none(web)
            self.told(True, right_none, web, thing)
            for one, other in (("'apart', 1", "'apart', 0"), ("'apart', 0", "'apart', 1"), ("'bare', 1", "'bare', 0"),
                               ("'bare', 0", "'bare', 1")):
                if one in repr(thing):
                    self.told(False, right_none, web, ast.literal_eval(repr(thing).replace(one, other)))

    def test_held_places_are_those_of_the_colour(self):
        # With 1 of colour 1, 0 is held and has the side to itself, whatever is in its lot.
        for web in (ring(5), ring(7)):
            n = web[0]
            first = plain_none(web, (0, 1), ())
            second = plain_none(web, (0,), (1,))
            self.told(True, right_none, web, ("part", 1, first, second))
            self.told(False, right_none, web, ("part", 1, second, first))
            self.told(False, right_none, web, ("part", n - 1, ("bare", 0, 0), second))

    def test_a_part(self):
        for web in (way(3), way(4), star(5), ring(5), comb(3), judges.STUCK, ladder(3)):
            thing = plain_none(web)
            if thing is None:
                continue
            self.told(True, right_none, web, thing)
            if thing[0] == "part":
                word, place, one, other = thing
                self.told(False, right_none, web, ("part", place, other, one))
                self.told(False, right_none, web, ("part", place, one, one))
                self.told(False, right_none, web, ("part", place, other, other))
                self.told(False, right_none, web, one)
                self.told(False, right_none, web, other)

    def test_the_colours_of_a_part(self):
        # one is for colour 0, other for colour 1.
        web = way(3)
        one, other = ("bare", 1, 0), ("apart", 0, (0,), 0, 2)
        self.told(True, right_none, web, ("part", 1, one, other))
        self.told(False, right_none, web, ("part", 1, other, one))

    def test_only_0_has_a_colour_at_first(self):
        # With nothing parted 1 cannot be bare, and 0 has colour 0, not 1.
        for web in (way(3), full(3), star(4, 1), ring(60)):
            for colour in (0, 1):
                for p in range(web[0]):
                    self.told(False, right_none, web, ("bare", colour, p))
        self.told(True, right_none, star(3, 1), ("part", 1, ("bare", 1, 0), ("apart", 0, (0,), 0, 2)))
        for end in (("apart", 1, (2,), 2, 3), ("apart", 1, (3,), 3, 2)):
            thing = ("part", 2, ("bare", 1, 2), ("part", 3, ("bare", 1, 3), end))
            self.told(True, right_none, star(4), thing)
        # Nothing need be parted where 0 is all that leads from one place to another.
        self.told(True, right_none, star(4), ("apart", 1, (1,), 1, 3))
        self.told(False, right_none, star(4), ("apart", 0, (1,), 1, 3))
        self.told(False, right_none, star(4, 1), ("apart", 1, (0,), 0, 3))

    def test_a_place_that_has_a_colour_already(self):
        end = ("apart", 1, (1,), 1, 3)
        self.told(True, right_none, star(4), end)
        for place in (2, 3):
            self.told(True, right_none, star(4), ("part", place, end, end))
        # Of colour 0 it is in no side of colour 1.
        self.told(False, right_none, star(4), ("part", 1, end, end))
        self.told(False, right_none, star(4), ("part", 0, end, end))
        for twice in (("part", 0, end, end), ("part", 2, end, end)):
            self.told(False, right_none, star(4), ("part", 2, twice, end))
            self.told(False, right_none, star(4), ("part", 2, end, twice))
            self.told(False, right_none, star(4), ("part", 3, ("part", 2, end, twice), end))
            self.told(False, right_none, star(4), ("part", 3, end, ("part", 2, twice, end)))
        again = ("part", 2, end, end)
        self.told(True, right_none, star(4), ("part", 3, again, again))

    def deep(self, order, last):
        """Parts in one another, each on the second side of the one about it."""
        thing = last
        for place in order[::-1]:
            thing = ("part", place, ("apart", 1, (1,), 1, 2), thing)
        return thing

    def test_as_deep_as_may_be(self):
        for order in (tuple(range(3, 60)), tuple(range(59, 2, -1))):
            for last in (("apart", 1, (1,), 1, 2), ("apart", 1, (1,), 1, 59), ("apart", 1, (2,), 2, 1)):
                self.told(True, right_none, star(60), self.deep(order, last))
            for last in (("apart", 1, (1,), 2, 1), ("apart", 0, (1,), 1, 2), ("bare", 0, 1), ("bare", 1, 1), ()):
                self.told(False, right_none, star(60), self.deep(order, last))
        order = (1, 2) + tuple(range(3, 60))
        self.told(False, right_none, star(60), self.deep(order + (0,), ("apart", 1, (1,), 1, 2)))
        self.told(False, right_none, star(60), self.deep(order + (7,), ("apart", 1, (1,), 1, 2)))
        # Seventy deep: there are not so many places.
        self.told(False, right_none, star(60), self.deep(order + tuple(range(1, 10)), ("apart", 1, (1,), 1, 2)))

    def test_webs_of_sixty_places(self):
        for web in (way(60), comb(30), star(60)):
            thing = plain_none(web)
            self.told(True, right_none, web, thing)
            self.told(False, right_none, ring(60), thing)

    def test_many_parts(self):
        # Each place of twelve parted, wherever; the last ones right, or just one of them wrong.
        for last in (("apart", 1, (1,), 1, 2), ("apart", 0, (1,), 1, 2)):
            thing = last
            for place in range(3, 15):
                thing = ("part", place, ("apart", 1, (1,), 1, 2) if last[1] else thing, thing)
            self.judged(star(60), thing)
        thing = ("apart", 1, (1,), 1, 2)
        for place in range(3, 15):
            thing = ("part", place, thing, thing)
        self.assertIs(right_none(star(60), thing), True)
        self.assertIs(right_none(star(60), ("part", 15, thing, thing)), True)
        self.assertIs(right_none(star(60), ("part", 15, thing, ("part", 1, thing, thing))), False)
        self.assertIs(right_none(star(60), ("part", 15, thing, ("part", 14, thing[2], ("bare", 1, 1)))), False)

    def test_other_words(self):
        end = ("apart", 1, (1,), 1, 2)
        self.told(True, right_none, star(5), ("part", 4, end, end))
        for word in ("", "Part", "parts", "part ", "apart", "bare", "none", "over", None, 0, True, ("part",), ["part"]):
            self.told(False, right_none, star(5), (word, 4, end, end))
        for word in ("", "Apart", "apart\n", "bare", "part", "two", None, 1, False, ("apart",), {}):
            self.told(False, right_none, star(5), (word,) + end[1:])
        thing = ("part", 1, ("bare", 1, 1), end)
        self.told(True, right_none, star(5), thing)
        for word in ("", "Bare", "bare ", "apart", "part", None, 1, ("bare",)):
            self.told(False, right_none, star(5), ("part", 1, (word, 1, 1), end))

    def test_colours_that_are_none(self):
        end = ("apart", 1, (1,), 1, 2)
        for colour in (True, False, 2, -1, None, "1", "0", (1,), [1], {}, HUGE, -HUGE, "", 10):
            self.told(False, right_none, star(5), ("apart", colour, (1,), 1, 2))
            self.told(False, right_none, star(5), ("part", 1, ("bare", colour, 1), end))
        web = way(3)
        for colour in (True, False, 2, -1, -2, None):
            self.told(False, right_none, web, ("part", 1, ("bare", colour, 0), ("apart", 0, (0,), 0, 2)))
            self.told(False, right_none, web, ("part", 1, ("bare", 1, 0), ("apart", colour, (0,), 0, 2)))

    def test_too_short_or_too_long(self):
        end = ("apart", 1, (1,), 1, 2)
        for thing in ((), ("apart",), ("apart", 1), ("apart", 1, (1,)), ("apart", 1, (1,), 1), end + (2,), (end,),
                      ("bare",), ("bare", 1), ("bare", 1, 1, 1), ("part",), ("part", 4), ("part", 4, end),
                      ("part", 4, end, end, end), ("part", end, end), (4, end, end), ("bare", 1, (1,), 1, 2),
                      ("apart", 1, 1), ("apart", (1,), 1, 2), (1,) + end[1:], end[1:]):
            self.told(False, right_none, star(5), thing)
            self.told(False, right_none, star(5), ("part", 4, end, thing))
            self.told(False, right_none, star(5), ("part", 4, thing, end))
        for thing in (("bare", 1), ("bare", 1, 4, 4), ("bare", 4), ("bare", 1, ()), ("bare", 1, (4,))):
            self.told(False, right_none, star(5), ("part", 4, thing, end))
        self.told(True, right_none, star(5), ("part", 4, ("bare", 1, 4), end))

    def test_sides_out_of_order_or_twice(self):
        web = (5, ((0, 1), (0, 3), (1, 2), (3, 4)))
        self.told(True, right_none, web, ("apart", 1, (1, 2), 2, 4))
        for side in ((2, 1), (1, 1, 2), (1, 2, 2), [1, 2], {1: 2}, "12", (True, 2), (1, "2"), (1, 2, 5), (-1, 1, 2), 1,
                     None, (1, (2,)), (1, None), (0, 1, 2), (1,), (2,), (1, 2, 3), (1, 2, 3, 4), (), (1, 2, HUGE)):
            self.told(False, right_none, web, ("apart", 1, side, 2, 4))

    def test_places_beyond_the_web(self):
        end = ("apart", 1, (1,), 1, 2)
        for p in (-1, 5, 60, HUGE, -HUGE, True, False, None, "1", (1,), [1], {1: 1}, "", ()):
            self.told(False, right_none, star(5), ("part", p, end, end))
            self.told(False, right_none, star(5), ("apart", 1, (1,), p, 2))
            self.told(False, right_none, star(5), ("apart", 1, (1,), 1, p))
            self.told(False, right_none, star(5), ("part", 1, ("bare", 1, p), end))

    def test_nothing_stands_for_a_tuple(self):
        end = ("apart", 1, (1,), 1, 2)
        for thing in (list(end), dict(enumerate(end)), "apart", str(end), ["part", 4, end, end],
                      ("part", 4, list(end), end), ("part", 4, end, list(end)), ("part", 4, end, None),
                      ("part", 4, end, {}), ("part", 4, "bare", end), {"part": end}, [("part", 4, end, end)]):
            self.told(False, right_none, star(5), thing)

    def ends(self, n):
        """Cases that part nothing, whether right or not."""
        some = [("bare", c, p) for c in (0, 1) for p in range(n)]
        for side in judges.choices(range(n)):
            for c, p, q in itertools.product((0, 1), (0, n - 1, 1), (n - 1, 0, 2)):
                some.append(("apart", c, side, p, q))
        return some

    def test_ends_and_parts_of_small_webs_against_all_colourings(self):
        let_by = 0
        for web in list(all_webs(3)) + [way(4), star(4), star(4, 2), ring(4), (4, ((0, 1), (0, 2), (1, 2), (2, 3)))]:
            ends = self.ends(web[0])
            right = [[end for end in ends if judges.is_coloured(web, zero, one, end)]
                     for zero, one in (((0, 1), ()), ((0,), (1,)))]
            wrong = ends[::9]
            things = ends + [("part", 1, *pair) for pair in itertools.product(right[0] + wrong, right[1] + wrong)]
            for thing in things:
                told = right_none(web, thing)
                self.assertIs(told, judges.is_none(web, thing), (web, thing))
                self.assertTrue(not told or judges.two_sets(web) is None, (web, thing))
                let_by += told
        self.assertGreater(let_by, 100)

    def test_all_colourings_of_small_webs(self):
        # Cases that part the first place always are there just where no colouring has two busy sets.
        none = two = 0
        for web in list(all_webs(3)) + list(all_webs(4)) + list(all_webs(5))[::9] + judges.small_webs()[:12]:
            thing = plain_none(web)
            self.assertEqual(thing is None, judges.two_sets(web) is not None, web)
            if thing is None:
                two += 1
            else:
                none += 1
                self.told(True, right_none, web, thing)
        self.assertTrue(none > 30 and two > 15, (none, two))

    def test_where_two_are_apart_nothing_is_let_by(self):
        for web in (ring(4), full(4), sides(2, 3), full(5)):
            self.assertIsNotNone(judges.two_sets(web))
            for other in (way(web[0]), star(web[0]), star(web[0], web[0] - 1)):
                self.judged(web, plain_none(other))
                self.assertIs(right_none(web, plain_none(other)), False)

    def test_webs_of_twelve_to_fourteen_places(self):
        for web in (way(12), way(13), star(13, 4), comb(6), comb(7), judges.mixed(12, 1), judges.mixed(13, 2), way(14)):
            thing = plain_none(web)
            if thing is not None:
                self.told(True, right_none, web, thing)
                self.judged(ring(web[0]), thing)
                self.judged(full(web[0]), thing)

    def test_anything(self):
        end = ("apart", 1, (1,), 1, 2)
        for web in (star(5), full(3), most_ties(200)):
            for thing in samples.odd_things() + samples.great_things():
                for cases in (thing, (thing,), ("bare", thing), ("bare", 1, thing), ("bare", thing, 1),
                              ("apart", 1, thing, 1, 2), ("apart", thing, (1,), 1, 2), ("apart", 1, (1,), thing, 2),
                              ("part", thing, end, end), ("part", 2, end, thing), ("part", 2, thing, end)):
                    self.judged(web, cases)

    def test_spoilt_cases(self):
        for web, cases in (
            (way(3), ("part", 1, ("bare", 1, 0), ("apart", 0, (0,), 0, 2))),
            (star(5), ("part", 1, ("bare", 1, 1), ("part", 2, ("bare", 1, 2), ("apart", 1, (1,), 1, 2)))),
        ):
            self.told(True, right_none, web, cases)
            for thing in samples.spoilt(cases):
                self.judged(web, thing)

    def test_somewhat_beyond_the_bounds(self):
        self.told(True, right_none, way(65), ("part", 1, ("bare", 1, 0), ("apart", 0, (0,), 0, 2)))
        self.told(False, right_none, (2, ((0, 1),)), ("bare", 1, 0))


if __name__ == "__main__":
    unittest.main()

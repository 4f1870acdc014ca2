"""Two trees apart, or cases that none are (point 27)."""

import unittest

from manyleaves.apart import right_none, right_two
from manyleaves.errors import TooGreat
from manyleaves.two import two_trees

import judges
from judges import sides
from samples import Asking, all_webs, comb, far_ties, full, ladder, ring, star, way


class TwoTrees(Asking):

    def judged(self, web):
        """See to it that two are told just where some colouring has two busy sets; tell the word."""
        told = self.ask(two_trees, web)
        self.assertIs(type(told), tuple)
        if judges.two_sets(web) is None:
            self.assertEqual((told[0], len(told)), ("none", 2), web)
            self.assertTrue(judges.is_none(web, told[1]), (web, told))
            self.assertIs(right_none(web, told[1]), True)
        else:
            self.assertEqual((told[0], len(told)), ("two", 3), web)
            self.assertTrue(judges.is_two(web, told[1:]), (web, told))
            self.assertIs(right_two(web, told[1:]), True)
        return told[0]

    def test_ordinary(self):
        for web in (ring(4), full(4), full(12), sides(2, 3), sides(6, 6), sides(2, 10), ladder(3),
                    (4, ((0, 1), (0, 2), (0, 3), (1, 2), (1, 3)))):
            self.assertEqual(self.judged(web), "two")
        for web in (way(3), way(12), ring(5), ring(12), star(12, 7), comb(6), judges.HELPED,
                    (4, ((0, 1), (0, 2), (1, 2), (2, 3)))):
            self.assertEqual(self.judged(web), "none")

    def test_three_places(self):
        # Of a full web each place alone is a busy set.
        self.assertEqual(self.judged(full(3)), "two")
        for middle in (0, 1, 2):
            self.assertEqual(self.judged(star(3, middle)), "none")

    def test_a_place_with_one_neighbour(self):
        # Its neighbour is busy in every tree.
        self.assertEqual(self.judged((5, full(4)[1] + ((3, 4),))), "none")
        self.assertEqual(self.judged((5, tuple(sorted(full(4)[1] + ((0, 4),))))), "none")
        self.assertEqual(self.judged((5, tuple(sorted(full(4)[1] + ((0, 4), (3, 4)))))), "two")

    def test_all_webs_of_three_and_four_places(self):
        found = [self.judged(web) for n in (3, 4) for web in all_webs(n)]
        self.assertTrue(found.count("two") > 5 and found.count("none") > 20)

    def test_all_webs_of_five_places(self):
        found = [self.judged(web) for web in list(all_webs(5))[::2]]
        self.assertTrue(found.count("two") > 50 and found.count("none") > 50)

    def test_webs_of_six_places(self):
        found = [self.judged(web) for web in list(all_webs(6))[5000:26000:97]]
        self.assertTrue(found.count("two") > 20 and found.count("none") > 20)

    def test_webs_of_three_to_eleven_places(self):
        for web in judges.small_webs() + judges.webs_of(8) + judges.webs_of(10) + [judges.mixed(11, 4), ladder(5)]:
            for names in list(judges.some_names(web[0]))[:5]:
                self.judged(judges.renamed(web, names))

    def test_twelve_places(self):
        found = {self.judged(judges.renamed(web, names)) for web in judges.webs_of(12) + [far_twelve(k) for k in (5, 7)]
                 for names in list(judges.some_names(12))[::4]}
        self.assertEqual(found, {"two", "none"})

    def test_more_than_twelve_places(self):
        for web in (way(13), ring(13), full(13), star(13, 12), judges.mixed(13, 2), way(60), full(20), ladder(30),
                    far_ties(200), way(65)):
            self.refused(TooGreat, two_trees, web)

    def test_renamed_webs(self):
        for web in (ring(4), ring(6), sides(3, 3), ladder(4), judges.STUCK, judges.mixed(8, 4), judges.mixed(9, 5)):
            words = {two_trees(judges.renamed(web, names))[0] for names in judges.some_names(web[0])}
            self.assertEqual(len(words), 1, web)

    def test_somewhat_beyond_the_bounds(self):
        self.told(("two", ((0, 1),), ((0, 1),)), two_trees, (2, ((0, 1),)))


def far_twelve(k):
    """A web of twelve places, each tied to the next and to the one k further."""
    ties = {(a, (a + step) % 12) for a in range(12) for step in (1, k)}
    return (12, tuple(sorted({(min(tie), max(tie)) for tie in ties})))


if __name__ == "__main__":
    unittest.main()

"""Two exchanges at once, and trees that are stopped for these, too (point 21)."""

import unittest

from manyleaves.climbing import climbed
from manyleaves.errors import TooGreat
from manyleaves.exchanges import exchanged, rows_of
from manyleaves.twice import climbed_twice, right_stopped_twice, twos_of

import judges
import samples
from judges import STUCK, STUCK_TREE
from samples import Asking, comb, full, ladder, most_ties, ring, star, way

HUGE = 10 ** 99
# Ten places, sixteen ties.
GREATEST = (10, tuple(sorted(ring(10)[1] + ((0, 2), (0, 5), (1, 6), (2, 9), (3, 7), (4, 8)))))


def few_ties():
    """Webs of three to ten places that have no more than sixteen ties."""
    webs = judges.tiny_webs() + judges.small_webs() + [judges.mixed(10, 3), ladder(5), ring(10), way(10), GREATEST]
    return [web for web in webs if len(web[1]) <= 16]


def too_great():
    """Webs of more than ten places, of more than sixteen ties, and of both."""
    seventeen = (10, tuple(sorted(GREATEST[1] + ((3, 9),))))
    return [way(11), ring(11), star(11), seventeen, (7, full(7)[1][:17]), full(7), full(10), (60, way(60)[1]),
            most_ties(200), full(12)]


class TwosOf(Asking):

    def judged(self, web, tree):
        rows = self.ask(twos_of, web, tree)
        self.assertEqual(repr(rows), repr(judges.twos(web, tree)), (web, tree))
        return rows

    def test_ordinary(self):
        a, b, c = (0, 1), (0, 2), (1, 2)
        self.told(((b, a, a, b, 2), (b, a, a, c, 2), (b, c, c, a, 2), (b, c, c, b, 2)), twos_of, full(3), (a, c))

    def test_a_tree_that_is_its_web_has_none(self):
        for web in (way(3), way(10), star(9, 4), comb(5)):
            self.told((), twos_of, web, web[1])

    def test_back_again(self):
        for web in few_ties()[::3]:
            for tree in judges.some_trees(web, 2):
                leaves = len(judges.ends_of(web[0], tree))
                rows = self.ask(twos_of, web, tree)
                for put, taken, behind in rows_of(web, tree):
                    self.assertIn((put, taken, taken, put, leaves), rows)

    def test_two_that_help_where_none_alone_does(self):
        rows = self.judged(STUCK, STUCK_TREE)
        self.assertEqual([row for row in rows if row[4] > 3],
                         [((0, 2), (1, 2), (0, 3), (1, 3), 4), ((0, 3), (1, 3), (0, 2), (1, 2), 4)])

    def test_webs_of_three_to_ten_places(self):
        for web in few_ties():
            for tree in judges.some_trees(web, 3):
                self.judged(web, tree)

    def test_each_row_leaves_a_tree_with_its_leaves(self):
        for web in few_ties()[::2]:
            for tree in judges.some_trees(web, 2):
                for put, taken, then, out, leaves in twos_of(web, tree)[::3]:
                    left = exchanged(exchanged(tree, put, taken), then, out)
                    self.assertTrue(samples.is_tree(web, left), (web, tree, put, taken, then, out))
                    self.assertEqual(len(judges.ends_of(web[0], left)), leaves)

    def test_ten_places_and_sixteen_ties(self):
        self.assertEqual((GREATEST[0], len(GREATEST[1])), (10, 16))
        self.assertGreater(len(self.judged(GREATEST, way(10)[1])), 1000)

    def test_too_great(self):
        for web in too_great():
            self.refused(TooGreat, twos_of, web, samples.some_tree(web))

    def test_somewhat_beyond_the_bounds(self):
        self.told((), twos_of, (2, ((0, 1),)), ((0, 1),))


class ClimbedTwice(Asking):

    def judged(self, web, tree):
        done, stopped = self.ask(climbed_twice, web, tree)
        self.assertEqual(repr((done, stopped)), repr(judges.climb(web, tree, twice=True)), (web, tree))
        ahead = len(judges.ends_of(web[0], tree))
        for row in done:
            self.assertGreater(row[-1], ahead)
            ahead = row[-1]
        self.assertEqual(len(judges.ends_of(web[0], stopped)), ahead)
        self.assertIs(right_stopped_twice(web, stopped, (rows_of(web, stopped), twos_of(web, stopped))), True)
        return done

    def test_two_at_once_alone(self):
        row = ((0, 2), (1, 2), (0, 3), (1, 3), 4)
        self.told(((row,), star(5)[1]), climbed_twice, STUCK, STUCK_TREE)

    def test_both_kinds(self):
        # Of the web STUCK with a place more, tied to 4 and 0.
        web = (6, tuple(sorted(STUCK[1] + ((0, 5), (4, 5)))))
        tree = tuple(sorted(STUCK_TREE + ((4, 5),)))
        done = self.judged(web, tree)
        self.assertEqual([len(row) for row in done], [3, 5])
        self.assertEqual([row[-1] for row in done], [4, 5])
        self.assertEqual(done[0], climbed(web, tree)[0][0])

    def test_one_alone_again_behind_two_at_once(self):
        kinds = set()
        for web in few_ties():
            for tree in judges.some_trees(web, 4):
                kinds.add(tuple(len(row) for row in climbed_twice(web, tree)[0]))
        self.assertLessEqual({(), (3,), (5,), (3, 3), (3, 5)}, kinds)

    def test_a_tree_that_is_stopped_stays(self):
        for web, tree in ((way(10), way(10)[1]), (full(5), star(5, 3)[1]), (comb(4), comb(4)[1]),
                          (ring(10), way(10)[1]), (STUCK, star(5)[1])):
            self.told(((), tree), climbed_twice, web, tree)

    def test_webs_of_three_to_ten_places(self):
        for web in few_ties():
            for tree in judges.some_trees(web, 4):
                self.judged(web, tree)

    def test_many_trees_of_one_web(self):
        for tree in judges.some_trees(STUCK, 100):
            self.judged(STUCK, tree)
        web = (6, ((0, 1), (0, 2), (0, 4), (1, 3), (1, 4), (2, 4), (2, 5), (3, 4), (4, 5)))
        for tree in judges.some_trees(web, 25):
            self.judged(web, tree)

    def test_no_fewer_leaves_than_by_one_alone(self):
        for web in few_ties()[::2]:
            for tree in judges.some_trees(web, 4):
                one = climbed(web, tree)[1]
                both = climbed_twice(web, tree)
                self.assertGreaterEqual(len(judges.ends_of(web[0], both[1])), len(judges.ends_of(web[0], one)))
                # As long as one alone helps, both go the same way.
                self.assertEqual(both[0][:len(climbed(web, tree)[0])], climbed(web, tree)[0])

    def test_ten_places_and_sixteen_ties(self):
        self.judged(GREATEST, way(10)[1])

    def test_too_great(self):
        for web in too_great():
            self.refused(TooGreat, climbed_twice, web, samples.some_tree(web))


class RightStoppedTwice(Asking):

    def papers(self, web, tree):
        return (judges.rows(web, tree), judges.twos(web, tree))

    def is_stopped(self, web, tree):
        many = len(judges.ends_of(web[0], tree))
        return all(row[-1] <= many for rows in self.papers(web, tree) for row in rows)

    def test_a_tree_that_is_stopped(self):
        for web, tree in ((ring(4), way(4)[1]), (full(5), star(5, 3)[1]), (ring(10), way(10)[1]), (STUCK, star(5)[1])):
            self.told(True, right_stopped_twice, web, tree, self.papers(web, tree))

    def test_a_tree_that_two_at_once_help(self):
        rows, twos = self.papers(STUCK, STUCK_TREE)
        self.told(False, right_stopped_twice, STUCK, STUCK_TREE, (rows, twos))
        self.told(False, right_stopped_twice, STUCK, STUCK_TREE, (rows, tuple(row for row in twos if row[4] < 4)))
        self.told(False, right_stopped_twice, STUCK, STUCK_TREE, (rows, ()))

    def test_a_tree_that_one_alone_helps(self):
        for web, tree in ((full(4), way(4)[1]), ((4, ((0, 1), (0, 2), (1, 2), (2, 3))), way(4)[1])):
            rows, twos = self.papers(web, tree)
            self.told(False, right_stopped_twice, web, tree, (rows, twos))
            self.told(False, right_stopped_twice, web, tree, (rows[1:], twos))
            self.told(False, right_stopped_twice, web, tree, ((), ()))

    def test_a_tree_that_is_its_web(self):
        for web in (way(3), way(10), star(9, 4), comb(5)):
            self.told(True, right_stopped_twice, web, web[1], ((), ()))
            for thing in ((), ((),), ((), (), ()), [(), ()], ([], ()), ((), []), ((), None), (None, ()), "", None, 0,
                          ({}, {}), ("", ""), ((), ((),)), (((),), ()), {(): ()}, True):
                self.told(False, right_stopped_twice, web, web[1], thing)

    def test_rows_left_out_twice_exchanged_or_wrong(self):
        web, tree = ring(4), way(4)[1]
        rows, twos = self.papers(web, tree)
        self.told(True, right_stopped_twice, web, tree, (rows, twos))
        for at, row in enumerate(twos):
            wrong = [twos[:at] + twos[at + 1:], twos[:at + 1] + twos[at:],
                     twos[:at] + (row[:4] + (row[4] - 1,),) + twos[at + 1:],
                     twos[:at] + (row[:4],) + twos[at + 1:], twos[:at] + (row + (2,),) + twos[at + 1:],
                     twos[:at] + ((row[0][::-1],) + row[1:],) + twos[at + 1:],
                     twos[:at] + (row[:3] + (row[3][::-1], row[4]),) + twos[at + 1:],
                     twos[:at] + (row[2:4] + row[:2] + row[4:],) + twos[at + 1:], twos[at + 1:], twos[:at]]
            if at:
                wrong.append(twos[:at - 1] + (row, twos[at - 1]) + twos[at + 1:])
            for thing in wrong:
                if thing != twos:
                    self.told(False, right_stopped_twice, web, tree, (rows, thing))
        for at, row in enumerate(rows):
            for thing in (rows[:at] + rows[at + 1:], rows[:at + 1] + rows[at:], rows[at + 1:],
                          rows[:at] + (row[:2] + (row[2] - 1,),) + rows[at + 1:]):
                self.told(False, right_stopped_twice, web, tree, (thing, twos))
        for thing in ((twos, rows), (rows, rows), (twos, twos), (rows,), (rows, twos, ()), rows, twos, rows + twos,
                      [rows, twos], (list(rows), twos), (rows, list(twos)), (rows[::-1], twos), (rows, twos[::-1]),
                      ((rows, twos),), {rows: twos}, (rows, dict(enumerate(twos)))):
            self.told(False, right_stopped_twice, web, tree, thing)

    def test_without_the_two_that_go_back(self):
        rows, twos = self.papers(ring(4), way(4)[1])
        kept = tuple(row for row in twos if row[:2] != (row[3], row[2]))
        self.assertEqual(len(twos) - len(kept), len(rows))
        self.told(False, right_stopped_twice, ring(4), way(4)[1], (rows, kept))

    def test_true_and_false_are_no_ints(self):
        web, tree = full(3), way(3)[1]
        rows, twos = self.papers(web, tree)
        for old, new in (((0, 2), (False, 2)), ((1, 2), (True, 2)), ((0, 1), (0, True))):
            led_rows = tuple(tuple(new if x == old else x for x in row) for row in rows)
            led_twos = tuple(tuple(new if x == old else x for x in row) for row in twos)
            self.assertEqual((led_rows, led_twos), (rows, twos))
            self.told(False, right_stopped_twice, web, tree, (led_rows, twos))
            self.told(False, right_stopped_twice, web, tree, (rows, led_twos))

    def test_webs_of_three_to_ten_places(self):
        for web in few_ties():
            for tree in judges.some_trees(web, 2):
                for some in (tree, climbed(web, tree)[1], climbed_twice(web, tree)[1]):
                    self.told(self.is_stopped(web, some), right_stopped_twice, web, some, self.papers(web, some))

    def test_anything(self):
        for web, tree in ((way(3), way(3)[1]), (full(3), way(3)[1])):
            rows, twos = self.papers(web, tree)
            for thing in samples.odd_things() + samples.great_things():
                for pair in (thing, (thing, twos), (rows, thing), (rows, twos, thing), (rows + (thing,), twos),
                             (rows, twos + (thing,)), (rows, (thing,) + twos[1:])):
                    self.told(repr(pair) == repr((rows, twos)), right_stopped_twice, web, tree, pair)

    def test_spoilt_rows(self):
        web, tree = full(3), way(3)[1]
        pair = self.papers(web, tree)
        self.told(True, right_stopped_twice, web, tree, pair)
        for thing in samples.spoilt(pair):
            self.told(repr(thing) == repr(pair), right_stopped_twice, web, tree, thing)

    def test_places_beyond_the_web(self):
        rows, twos = self.papers(full(3), way(3)[1])
        for p in (-1, 3, 60, HUGE, -HUGE):
            self.told(False, right_stopped_twice, full(3), way(3)[1], (rows, twos + (((0, p),) + twos[0][1:],)))
            self.told(False, right_stopped_twice, full(3), way(3)[1], (rows, (((0, p),) + twos[0][1:],) + twos[1:]))

    def test_too_great_of_anything(self):
        for web in too_great():
            tree = samples.some_tree(web)
            for thing in samples.odd_things() + [((), ())]:
                self.refused(TooGreat, right_stopped_twice, web, tree, thing)
        for web in (way(11), full(7)):
            tree = samples.some_tree(web)
            self.refused(TooGreat, right_stopped_twice, web, tree, self.papers(web, tree))
            for thing in samples.great_things():
                self.refused(TooGreat, right_stopped_twice, web, tree, thing)


if __name__ == "__main__":
    unittest.main()

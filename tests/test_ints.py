"""What the program needs of whole numbers (point 2)."""

import unittest

from manyleaves.ints import is_between, is_int

from samples import Asking, great_things, odd_things


class Ints(Asking):

    def test_whole_numbers(self):
        for number in (0, 1, -1, 60, 10 ** 99, -(10 ** 99)):
            self.told(True, is_int, number)

    def test_true_and_false_are_none(self):
        self.told(False, is_int, True)
        self.told(False, is_int, False)

    def test_anything(self):
        for thing in odd_things() + great_things():
            self.told(type(thing) is int, is_int, thing)
            self.told(type(thing) is int and 0 <= thing <= 60, is_between, thing, 0, 60)

    def test_both_ends_count(self):
        self.told(True, is_between, 3, 3, 60)
        self.told(True, is_between, 60, 3, 60)
        self.told(False, is_between, 2, 3, 60)
        self.told(False, is_between, 61, 3, 60)
        self.told(False, is_between, 3, 4, 3)
        self.told(False, is_between, True, 0, 1)


if __name__ == "__main__":
    unittest.main()

"""The refusals of the interface."""

import unittest

from manyleaves import errors

NAMES = ("NoWeb", "TooGreat", "NoSet", "Taken", "TooMany", "NoTie", "Apart", "NoText")


class Refusals(unittest.TestCase):

    def test_all_stand_under_leaf_error(self):
        self.assertTrue(issubclass(errors.LeafError, ValueError))
        for name in NAMES:
            self.assertTrue(issubclass(getattr(errors, name), errors.LeafError), name)

    def test_none_stands_under_another(self):
        for one in NAMES:
            for other in NAMES:
                if one != other:
                    self.assertFalse(issubclass(getattr(errors, one), getattr(errors, other)), (one, other))

    def test_made_without_arguments(self):
        for name in NAMES + ("LeafError",):
            with self.assertRaises(getattr(errors, name)):
                raise getattr(errors, name)()


if __name__ == "__main__":
    unittest.main()

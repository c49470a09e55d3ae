"""Whole numbers [2], and the bounds of [4] and [17]."""

import unittest

from asking import Asking, odd_things
from fullrooms import wholes
from fullrooms.wholes import is_from, is_rising, is_whole

WHOLE = [0, 1, -1, 2, 8, 600, 10 ** 12, 10 ** 12 + 1, 10 ** 59, -(10 ** 59)]


class Wholes(Asking):

    def test_bounds(self):
        bounds = (wholes.ROOMS, wholes.KINDS, wholes.GREAT, wholes.ROWS, wholes.STEPS)
        self.assertEqual(repr((8, 6, 1000000000000, 600, 20)), repr(bounds))

    def test_whole_numbers_are_whole(self):
        for number in WHOLE:
            self.assert_tells(True, is_whole, number)

    def test_all_else_is_not_whole(self):
        for thing in odd_things():
            self.assert_tells(False, is_whole, thing)

    def test_from_low_to_high(self):
        for low, high in [(0, 0), (0, 1), (1, 8), (-3, -1), (-2, 5), (1, 10 ** 12), (0, 10 ** 59)]:
            for number in (low, high, (low + high) // 2):
                self.assert_tells(True, is_from, number, low, high)
            for number in (low - 1, high + 1, low - 10 ** 12, high + 10 ** 12):
                self.assert_tells(False, is_from, number, low, high)

    def test_from_low_to_high_of_all_numbers(self):
        for low in range(-2, 3):
            for high in range(-2, 3):
                for number in range(-4, 5):
                    self.assert_tells(number in range(low, high + 1), is_from, number, low, high)

    def test_all_else_is_from_nothing_to_nothing(self):
        for thing in odd_things():
            self.assert_tells(False, is_from, thing, -(10 ** 59), 10 ** 59)
            self.assert_tells(False, is_from, thing, 0, 1)
            self.assert_tells(False, is_from, thing, 1, 1)
            self.assert_tells(False, is_from, thing, 0, 0)

    def test_rising(self):
        for row in [(), (5,), (0, 1), (0, 2, 7), ((0, 1), (0, 2), (1, 0)), [(0, 9, 9), (1, 0, 0)]]:
            self.assert_tells(True, is_rising, row)
        for row in [(0, 0), (1, 0), (0, 2, 2), (0, 2, 1), (2, 0, 1), ((0, 1), (0, 1)), [(1, 0, 0), (0, 9, 9)]]:
            self.assert_tells(False, is_rising, row)


if __name__ == "__main__":
    unittest.main()

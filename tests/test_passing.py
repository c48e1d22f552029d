"""Point 3: when a tow comes to a place, and how deep a stretch is."""

import unittest

from tests.samples import LONGEST, RIVER, TWO
from towbarges.passing import depth_at, time_at


class Times(unittest.TestCase):
    def test_a_tow_comes_after_all_stretches_ahead_of_a_place(self):
        self.assertEqual([time_at(TWO, place, 0) for place in range(4)], [0, 2, 5, 6])
        self.assertEqual([time_at(TWO, place, 4) for place in range(4)], [4, 6, 9, 10])
        self.assertEqual([time_at(TWO, place, 11) for place in range(4)], [11, 13, 16, 17])

    def test_one_stretch(self):
        book = (((7, 1, (0,)),), ())
        self.assertEqual([time_at(book, 0, 11), time_at(book, 1, 11)], [11, 18])

    def test_eight_stretches(self):
        self.assertEqual(time_at(LONGEST, 8, 11), 83)
        self.assertEqual(time_at(LONGEST, 7, 0), 63)

    def test_room_and_depths_do_not_count(self):
        book = (((3, 9, (99, 99)), (4, 1, (0,))), ())
        self.assertEqual(time_at(book, 2, 1), 8)

    def test_numbers_beyond_the_limits_raise_nothing(self):
        self.assertEqual(time_at(TWO, 4, 0), 6)
        self.assertEqual(time_at(TWO, -1, 3), 3)
        self.assertEqual(time_at(TWO, 1, 12), 14)
        self.assertEqual(time_at(TWO, 1, -1), 1)


class Depths(unittest.TestCase):
    def test_depths_come_again(self):
        self.assertEqual([depth_at(TWO, 0, time) for time in range(7)], [50, 90, 70, 50, 90, 70, 50])
        self.assertEqual([depth_at(TWO, 2, time) for time in (0, 1, 2, 101)], [60, 40, 60, 40])

    def test_one_depth(self):
        self.assertEqual([depth_at(TWO, 1, time) for time in (0, 1, 83)], [80, 80, 80])

    def test_24_depths_and_times_beyond_them(self):
        self.assertEqual([depth_at(LONGEST, 7, time) for time in (0, 23, 24, 25, 47, 83)], [0, 23, 0, 1, 23, 11])

    def test_numbers_beyond_the_limits_raise_nothing(self):
        self.assertEqual(depth_at(TWO, 0, -1), 70)
        self.assertEqual(depth_at(TWO, 0, 3000), 50)
        for stretch in (-1, len(RIVER), 8, 99):
            self.assertEqual(depth_at(TWO, stretch, 0), 0)


if __name__ == "__main__":
    unittest.main()

"""Points 5, 6, 8 and 9, and the waiting of point 4."""

import unittest

from tests.oracle import chance_books, told_against, walked
from tests.samples import RIVER, WIDE, plain
from towbarges.judging import hours_alone, refusals, spare, worth


class Alone(unittest.TestCase):
    """What speaks against a barge by itself."""

    def test_early_is_ahead_of_ready(self):
        book = (RIVER, ((1, 3, 1, 5, 199),))
        self.assertEqual(refusals(book, (2,)), [("early", 0, 4)])
        self.assertEqual(refusals(book, (3,)), [])
        self.assertEqual(refusals(book, (4,)), [])

    def test_late_is_beyond_due(self):
        book = (RIVER, ((0, 2, 1, 0, 9),))
        self.assertEqual(refusals(book, (3,)), [])
        self.assertEqual(refusals(book, (4,)), [])
        self.assertEqual(refusals(book, (5,)), [("late", 0, 10)])

    def test_the_ends_of_the_hours(self):
        book = (RIVER, ((0, 3, 1, 0, 199), (0, 1, 1, 1, 199), (0, 3, 1, 0, 16)))
        self.assertEqual(refusals(book, (0, None, None)), [])
        self.assertEqual(refusals(book, (11, None, None)), [])
        self.assertEqual(refusals(book, (None, 0, None)), [("early", 1, 0)])
        self.assertEqual(refusals(book, (None, None, 11)), [("late", 2, 17)])

    def test_shallow_is_less_than_the_draft(self):
        river = ((2, 1, (7, 8, 9)),)
        for draft, hours in ((7, []), (8, [0, 3]), (9, [0, 1, 3, 4])):
            book = (river, ((0, 1, draft, 0, 199),))
            self.assertEqual([hour for hour in range(6) if refusals(book, (hour,))], hours)

    def test_shallow_is_told_for_each_stretch_on_the_way_alone(self):
        river = ((1, 1, (1,)), (2, 1, (4, 5)), (3, 1, (9,)), (1, 1, (6, 7)), (1, 1, (2,)))
        book = (river, ((1, 4, 8, 0, 199),))
        self.assertEqual(refusals(book, (0,)), [("shallow", 0, 1, 1, 5), ("shallow", 0, 3, 6, 6)])
        self.assertEqual(refusals(book, (1,)), [("shallow", 0, 1, 2, 4), ("shallow", 0, 3, 7, 7)])

    def test_early_late_and_shallow_of_one_barge_come_in_this_order(self):
        book = (((1, 1, (3,)), (1, 1, (2,))), ((0, 2, 4, 9, 5),))
        told = [("early", 0, 7), ("late", 0, 9), ("shallow", 0, 0, 7, 3), ("shallow", 0, 1, 8, 2)]
        self.assertEqual(refusals(book, (7,)), told)

    def test_a_barge_that_is_open_has_nothing_against_it(self):
        book = (RIVER, ((0, 3, 99, 99, 0),) * 7)
        self.assertEqual(refusals(book, (None,) * 7), [])

    def test_no_barge_and_seven(self):
        self.assertEqual(refusals((RIVER, ()), ()), [])
        book = (WIDE, ((0, 8, 99, 0, 199),) * 7)
        self.assertEqual(refusals(book, (11,) * 7), [])
        book = (WIDE, ((0, 1, 1, 1, 199),) * 7)
        self.assertEqual(refusals(book, (0,) * 7), [("early", number, 0) for number in range(7)])


class Together(unittest.TestCase):
    """What speaks against barges of one tow."""

    def test_a_stretch_at_its_room_and_above_it(self):
        for room in (1, 2, 6):
            river = ((1, room, (9,)),)
            full = (river, (plain(0, 1),) * (room + 1))
            self.assertEqual(refusals(full, (3,) * room + (None,)), [])
            self.assertEqual(refusals(full, (3,) * room + (4,)), [])
            self.assertEqual(refusals(full, (3,) * (room + 1)), [("full", 3, 0, room + 1)])

    def test_full_tells_how_many_and_only_of_those_on_the_stretch(self):
        river = ((1, 9, (9,)), (1, 1, (9,)), (1, 9, (9,)))
        book = (river, (plain(0, 1), plain(0, 3), plain(1, 2), plain(1, 3), plain(2, 3)))
        self.assertEqual(refusals(book, (5,) * 5), [("full", 5, 1, 3)])
        self.assertEqual(refusals(book, (5, 5, None, 6, 5)), [])

    def test_full_comes_by_hours_then_by_stretches(self):
        river = ((1, 1, (9,)), (1, 1, (9,)))
        book = (river, (plain(0, 2),) * 6)
        told = [("full", 2, 0, 2), ("full", 2, 1, 2), ("full", 10, 0, 3), ("full", 10, 1, 3)]
        self.assertEqual(refusals(book, (10, 2, 10, 2, 0, 10)), told)

    def test_crossed_barges_of_one_tow(self):
        book = (WIDE, (plain(0, 2), plain(1, 3)))
        self.assertEqual(refusals(book, (4, 4)), [("crossed", 0, 1)])
        self.assertEqual(refusals(book, (4, 5)), [])
        self.assertEqual(refusals(book, (4, None)), [])
        self.assertEqual(refusals(book, (None, 4)), [])

    def test_the_lesser_begin_is_told_first(self):
        book = (WIDE, (plain(1, 3), plain(0, 2)))
        self.assertEqual(refusals(book, (4, 4)), [("crossed", 1, 0)])

    def test_barges_that_are_not_crossed(self):
        pairs = (
            ((0, 2), (2, 4)),
            ((0, 2), (3, 4)),
            ((0, 2), (0, 3)),
            ((0, 3), (1, 3)),
            ((0, 4), (1, 3)),
            ((0, 2), (0, 2)),
        )
        for one, other in pairs:
            for pair in ((one, other), (other, one)):
                with self.subTest(pair=pair):
                    self.assertEqual(refusals((WIDE, (plain(*pair[0]), plain(*pair[1]))), (4, 4)), [])

    def test_crossed_comes_by_the_first_numbers_then_the_second(self):
        ways = ((3, 7), (0, 4), (2, 6), (1, 5))
        book = (WIDE, tuple(plain(*way) for way in ways))
        told = [("crossed", 1, 0), ("crossed", 1, 2), ("crossed", 1, 3)]
        told += [("crossed", 2, 0), ("crossed", 3, 0), ("crossed", 3, 2)]
        self.assertEqual(refusals(book, (0, 0, 0, 0)), told)

    def test_crossed_comes_by_numbers_not_by_hours(self):
        book = (WIDE, (plain(0, 2), plain(0, 2), plain(1, 3), plain(1, 3)))
        self.assertEqual(refusals(book, (9, 1, 9, 1)), [("crossed", 0, 2), ("crossed", 1, 3)])

    def test_several_kinds_come_in_their_order(self):
        river = ((1, 1, (5,)), (1, 1, (1,)), (1, 2, (5,)))
        book = (river, ((1, 3, 2, 9, 199), (0, 2, 6, 0, 2), (1, 2, 1, 0, 1)))
        told = [
            ("early", 0, 4),
            ("shallow", 0, 1, 4, 1),
            ("late", 1, 5),
            ("shallow", 1, 0, 3, 5),
            ("shallow", 1, 1, 4, 1),
            ("late", 2, 5),
            ("full", 3, 1, 3),
            ("crossed", 1, 0),
        ]
        self.assertEqual(refusals(book, (3, 3, 3)), told)


class Chance(unittest.TestCase):
    """Books of chance beside the document written a second time."""

    def test_all_that_speaks_against_plans(self):
        seen = {}
        for book, plan in chance_books(3000):
            told = refusals(book, plan)
            self.assertEqual(told, told_against(book, plan), (book, plan))
            for cause in told or [("good",)]:
                seen[cause[0]] = seen.get(cause[0], 0) + 1
        for word in ("early", "late", "shallow", "full", "crossed", "good"):
            self.assertGreater(seen[word], 100, word)

    def test_never_less_speaks_against_more_hours(self):
        for book, plan in chance_books(500):
            whole = refusals(book, plan)
            most = {cause[:3]: cause for cause in whole}
            for at in range(len(plan)):
                for cause in refusals(book, plan[:at] + (None,) + plan[at + 1:]):
                    self.assertIn(cause[:3], most)
                    if cause[0] == "full":
                        self.assertLessEqual(cause[3], most[cause[:3]][3])
                    else:
                        self.assertIn(cause, whole)


class Hours(unittest.TestCase):
    def test_each_hour_is_told(self):
        book = (RIVER, (plain(0, 1), (0, 1, 60, 2, 10)))
        told = hours_alone(book, 1)
        self.assertEqual(len(told), 12)
        self.assertEqual(told[0], [("early", 1, 0), ("shallow", 1, 0, 0, 50)])
        self.assertEqual(told[1], [("early", 1, 1)])
        self.assertEqual(told[2], [])
        self.assertEqual(told[3], [("shallow", 1, 0, 3, 50)])
        self.assertEqual(told[8], [])
        self.assertEqual(told[9], [("late", 1, 11), ("shallow", 1, 0, 9, 50)])
        self.assertEqual(told[11], [("late", 1, 13)])
        self.assertEqual(hours_alone(book, 0), [[]] * 12)

    def test_what_is_told_is_what_speaks_against_the_barge_alone(self):
        for book, _ in chance_books(100):
            for barge in range(len(book[1])):
                nothing = [None] * len(book[1])
                told = []
                for hour in range(12):
                    nothing[barge] = hour
                    told.append(told_against(book, tuple(nothing)))
                self.assertEqual(hours_alone(book, barge), told)

    def test_a_barge_beyond_the_book_raises_nothing(self):
        for barge in (-1, 1, 7):
            self.assertEqual(hours_alone((RIVER, ((0, 1, 99, 99, 0),)), barge), [[]] * 12)


class Spare(unittest.TestCase):
    def test_waiting_left_and_deeper(self):
        book = (RIVER, ((0, 3, 40, 1, 20), (1, 2, 80, 2, 9), (2, 3, 1, 0, 199)))
        # hour 2: at 2, 4, 7 and 8, over depths 70, 80 and 40
        self.assertEqual(spare(book, (2, 2, None)), [(1, 12, 0), (2, 2, 0), None])
        # hour 1: the last stretch is begun at 6
        self.assertEqual(spare(book, (None, None, 1)), [None, None, (6, 192, 59)])

    def test_nothing_to_spare(self):
        book = (((3, 1, (4, 5, 6)),), ((0, 1, 6, 2, 5),))
        self.assertEqual(spare(book, (2,)), [(0, 0, 0)])

    def test_the_least_depth_on_the_way_alone_counts(self):
        river = tuple((1, 9, (depth,)) for depth in (3, 20, 10, 15, 2))
        book = (river, ((1, 4, 4, 0, 199), (1, 2, 4, 0, 199), (3, 4, 4, 0, 199)))
        self.assertEqual([row[2] for row in spare(book, (0, 1, 2))], [6, 16, 11])

    def test_good_plans_of_chance(self):
        many = 0
        for book, plan in chance_books(1000):
            if told_against(book, plan):
                continue
            many += 1
            for row, barge, hour in zip(spare(book, plan), book[1], plan, strict=True):
                if hour is None:
                    self.assertIsNone(row)
                    continue
                begin, goal, draft, ready, due = barge
                times = walked(book[0], hour)
                ways = [(book[0][at][2] * 200)[times[at]] for at in range(begin, goal)]
                self.assertEqual(row, (times[begin] - ready, due - times[goal], min(ways) - draft))
                self.assertGreaterEqual(min(row), 0)
        self.assertGreater(many, 100)


class Worth(unittest.TestCase):
    BOOK = (RIVER, ((0, 3, 1, 4, 20), (1, 2, 1, 3, 20), (2, 3, 1, 0, 20), (0, 1, 1, 9, 20)))

    def test_tows_are_unlike_hours_and_waiting_is_summed(self):
        self.assertEqual(worth(self.BOOK, (5, 5, 5, 11)), (2, 1 + 4 + 10 + 2))
        self.assertEqual(worth(self.BOOK, (4, 5, 6, 11)), (4, 0 + 4 + 11 + 2))
        self.assertEqual(worth(self.BOOK, (11, 11, 11, 11)), (1, 7 + 10 + 16 + 2))

    def test_barges_that_are_open_do_not_count(self):
        self.assertEqual(worth(self.BOOK, (None,) * 4), (0, 0))
        self.assertEqual(worth(self.BOOK, (None, 0, None, None)), (1, -1))
        self.assertEqual(worth(self.BOOK, (None, 5, None, 11)), (2, 6))

    def test_a_tow_ahead_of_ready_counts_below_nought(self):
        self.assertEqual(worth(self.BOOK, (0, None, None, 0)), (1, -13))
        self.assertEqual(worth(self.BOOK, (3, 3, None, None)), (1, -1 + 2))
        self.assertEqual(worth((RIVER, ((0, 3, 1, 99, 0),)), (0,)), (1, -99))

    def test_no_barge_and_seven(self):
        self.assertEqual(worth((RIVER, ()), ()), (0, 0))
        book = (RIVER, (plain(0, 1),) * 7)
        self.assertEqual(worth(book, (0, 1, 2, 3, 4, 5, 11)), (7, 26))
        self.assertEqual(worth(book, (0,) * 7), (1, 0))

    def test_a_plan_that_is_not_good_has_a_worth(self):
        book = (((1, 1, (0,)),), ((0, 1, 99, 0, 0),) * 2)
        self.assertNotEqual(refusals(book, (3, 3)), [])
        self.assertEqual(worth(book, (3, 3)), (1, 6))


if __name__ == "__main__":
    unittest.main()

"""Point 10, and together of point 8."""

import math
import unittest

from tests import samples
from tests.oracle import chance_starts, given, gone_through, is_shown, told_against, worth_told
from tests.refused import Refused
from tests.samples import RIVER, WIDE, plain
from towbarges.errors import BadPlan, NoPlan
from towbarges.planning import best, counted, earliest, together
from towbarges.showing import shows

# one stretch with room for one barge, so that each has a tow of its own
NARROW = ((1, 1, (99,)),)
OPEN = (None,) * 7


class Starts(Refused):
    """Checks of an answer against the words of the document."""

    def is_best(self, book, start, now):
        """Assert that what best tells is as the document wants it, and give its plan's worth."""
        plan, table = best(book, start, now)
        self.assertIsInstance(plan, tuple)
        self.assertEqual(len(plan), len(book[1]))
        for old, hour in zip(start, plan):
            self.assertTrue(hour == old or (old is None and max(now, 0) <= hour <= 11))
        self.assertEqual(told_against(book, plan), [])
        worth = worth_told(book, plan)
        self.assertTrue(is_shown(book, start, now, worth, table))
        self.assertIs(shows(book, start, now, worth, table), True)
        return worth

    def is_none(self, book, start, now):
        """Assert that there is no plan, and that the table of NoPlan shows it."""
        table = self.refused(NoPlan, best, book, start, now).table
        self.assertTrue(is_shown(book, start, now, (13, 0), table))
        self.assertIs(shows(book, start, now, (13, 0), table), True)
        self.assertEqual(counted(book, start, now), 0)
        self.assertIsNone(earliest(book, start, now))

    def is_as_gone_through(self, book, start, now):
        """Assert that all answers are those that going through all plans gives, and tell whether there are any."""
        plans = gone_through(book, start, now)
        if plans:
            self.assertEqual(self.is_best(book, start, now), min(worth_told(book, plan) for plan in plans))
            self.assertEqual(counted(book, start, now), len(plans))
            self.assertEqual(earliest(book, start, now), plans[0])
        else:
            self.is_none(book, start, now)
        return bool(plans)


class Best(Starts):
    def test_fewer_tows_are_better_than_less_waiting(self):
        book = (WIDE, ((0, 1, 1, 0, 199), (0, 1, 1, 11, 199)))
        self.assertEqual(best(book, (None, None), 0)[0], (11, 11))
        self.assertEqual(self.is_best(book, (None, None), 0), (1, 11))

    def test_of_as_many_tows_less_waiting_is_better(self):
        book = (WIDE, ((0, 1, 1, 3, 199), (1, 2, 1, 2, 199)))
        self.assertEqual(best(book, (None, None), 0)[0], (3, 3))
        self.assertEqual(self.is_best(book, (None, None), 0), (1, 2))

    def test_least_waiting_is_that_of_all_barges_together(self):
        # barge 0 alone would go at 0, but the three others then need two tows more
        book = (((1, 2, (9,)),), ((0, 1, 1, 0, 199), (0, 1, 1, 3, 199), (0, 1, 1, 3, 199), (0, 1, 1, 3, 199)))
        self.assertEqual(self.is_best(book, (None,) * 4, 0), (2, 5))
        self.assertEqual(self.is_best(book, (0, None, None, None), 0), (3, 1))

    def test_hours_of_the_start_stand(self):
        book = (WIDE, ((0, 1, 1, 0, 199), (0, 1, 1, 0, 199), (0, 1, 1, 0, 199)))
        self.assertEqual(best(book, (7, None, 5), 0)[0][::2], (7, 5))
        self.assertEqual(best(book, (7, None, 5), 0)[0], (7, 5, 5))
        self.assertEqual(self.is_best(book, (7, None, 5), 0), (2, 17))

    def test_a_tow_that_has_left_is_not_joined(self):
        book = (WIDE, ((0, 1, 1, 0, 199), (0, 1, 1, 0, 199)))
        self.assertEqual(best(book, (4, None), 4)[0], (4, 4))
        self.assertEqual(best(book, (4, None), 5)[0], (4, 5))
        self.assertEqual(best(book, (4, None), 11)[0], (4, 11))
        self.is_none(book, (4, None), 12)

    def test_a_tow_that_stands_later_than_now_is_joined(self):
        book = (WIDE, ((0, 1, 1, 0, 199), (0, 1, 1, 0, 199)))
        self.assertEqual(best(book, (9, None), 2)[0], (9, 9))

    def test_a_full_start_is_its_own_best_plan(self):
        book = (WIDE, ((0, 1, 1, 0, 199),) * 7)
        for plan in ((0,) * 7, (11, 10, 9, 8, 7, 6, 5)):
            for now in (0, 6, 12):
                self.assertEqual(best(book, plan, now), (plan, ("done",)))
                self.assertEqual(counted(book, plan, now), 1)
                self.assertEqual(earliest(book, plan, now), plan)

    def test_a_book_without_barges(self):
        for now in (0, 5, 12):
            self.assertEqual(best((RIVER, ()), (), now), ((), ("done",)))
            self.assertEqual(counted((RIVER, ()), (), now), 1)
            self.assertEqual(earliest((RIVER, ()), (), now), ())

    def test_the_ends_of_the_hours(self):
        book = (WIDE, (plain(0, 1),))
        self.assertEqual(best(book, (None,), 0), ((0,), ("cases", 0, ())))
        self.assertEqual(best(book, (None,), 11), ((11,), ("cases", 0, ())))
        self.assertEqual(self.refused(NoPlan, best, book, (None,), 12).table, ("cases", 0, ()))

    def test_now_somewhat_beyond_its_limits(self):
        book = (WIDE, (plain(0, 1), plain(0, 2)))
        for now in (-1, -5):
            self.assertEqual(self.is_best(book, (None, 3), now), (1, 6))
            self.assertEqual(counted(book, (None, 3), now), 12)
            self.assertEqual(earliest(book, (None, 3), now), (0, 3))
        # a tow of an hour below 0 would come to later places at times from 0 on
        book_below = (WIDE, (plain(5, 6), plain(7, 8)))
        for now in (-1, -3, -20):
            self.assertEqual(self.is_best(book_below, (None, None), now), (1, 12))
            self.assertEqual(counted(book_below, (None, None), now), 144)
            self.assertEqual(earliest(book_below, (None, None), now), (0, 0))
        for now in (13, 20):
            self.is_none(book, (None, 3), now)
            self.assertEqual(best(book, (3, 3), now), ((3, 3), ("done",)))

    def test_where_there_is_none(self):
        # due too early; too deep; two barges and one hour between them; no room
        self.is_none((RIVER, ((0, 3, 1, 0, 5),)), (None,), 0)
        self.is_none((RIVER, ((0, 1, 91, 0, 199),)), (None,), 0)
        self.is_none((NARROW, ((0, 1, 1, 4, 5), (0, 1, 1, 4, 5))), (None, None), 0)
        self.is_none((NARROW, ((0, 1, 1, 0, 199),) * 7), OPEN, 6)
        self.is_none((NARROW, ((0, 1, 1, 0, 199), (0, 1, 1, 6, 7))), (6, None), 0)

    def test_seven_barges_with_a_tow_each(self):
        book = (NARROW, ((0, 1, 1, 0, 11),) * 7)
        self.assertEqual(sorted(best(book, OPEN, 4)[0]), [4, 5, 6, 7, 8, 9, 10])
        self.assertEqual(self.is_best(book, OPEN, 4), (7, 49))

    def test_seven_barges_that_share_tows(self):
        # the four of place 0 need two even hours, 4 and 6, and stretch 1 has room for four at 4
        book = (((1, 3, (9, 5)), (1, 4, (9,))), ((0, 2, 6, 0, 199),) * 4 + ((1, 2, 1, 0, 199),) * 3)
        self.assertEqual(self.is_best(book, OPEN, 3), (2, 37))

    def test_seven_barges_of_which_one_has_no_hour(self):
        book = (WIDE, (plain(0, 8),) * 6 + ((0, 1, 1, 50, 199),))
        self.assertEqual(self.refused(NoPlan, best, book, OPEN, 0).table, ("cases", 6, ()))
        self.is_none(book, OPEN, 0)


class AllPlans(Starts):
    def test_few_barges_at_all_hours(self):
        told = [self.is_as_gone_through(*case) for case in chance_starts(120, 12, 0, 3)]
        self.assertTrue(any(told) and not all(told))

    def test_many_barges_at_few_hours(self):
        told = [self.is_as_gone_through(*case) for case in chance_starts(200, 3, 4, 7)]
        self.assertTrue(any(told) and not all(told))

    def test_crossed_barges_go_apart(self):
        river = ((1, 9, (9,)),) * 6
        book = (river, (plain(0, 3), plain(1, 4), plain(2, 5), plain(3, 6)))
        self.assertTrue(self.is_as_gone_through(book, (None,) * 4, 6))
        # of four barges crossed with each other, each has a tow of its own
        book = (((1, 9, (9,)),) * 8, tuple(plain(begin, begin + 5) for begin in range(4)))
        self.assertEqual(self.is_best(book, (None,) * 4, 5)[0], 4)
        self.is_none(book, (None,) * 4, 9)


class Counted(Starts):
    def test_all_hours_of_all_barges(self):
        book = (WIDE, (plain(0, 8),) * 7)
        for now in (0, 1, 7, 11, 12):
            self.assertEqual(counted(book, OPEN, now), (12 - now) ** 7)
            self.assertEqual(counted(book, (0, None, 3, None, None, 3, 11), now), (12 - now) ** 3)

    def test_a_tow_for_each_barge(self):
        book = (NARROW, ((0, 1, 1, 0, 199),) * 7)
        for now in (0, 3, 5, 6):
            self.assertEqual(counted(book, OPEN, now), math.perm(12 - now, 7))
        # of the hours that stand, those from now on are taken
        self.assertEqual(counted(book, (1, None, 8, None, None, None, None), 4), math.perm(7, 5))

    def test_room_for_two(self):
        book = (((1, 2, (9,)),), (plain(0, 1),) * 3)
        self.assertEqual(counted(book, (None,) * 3, 0), 12 ** 3 - 12)
        self.assertEqual(counted(book, (None,) * 3, 11), 0)


class Earliest(Starts):
    def test_the_first_barges_come_first(self):
        book = (WIDE, ((0, 1, 1, 5, 199), (0, 1, 1, 0, 199), (0, 1, 1, 2, 199)))
        self.assertEqual(earliest(book, (None,) * 3, 0), (5, 0, 2))
        self.assertEqual(earliest(book, (None,) * 3, 4), (5, 4, 4))
        self.assertEqual(earliest(book, (None, 11, None), 4), (5, 11, 4))

    def test_a_later_barge_may_need_the_first_hour(self):
        book = (NARROW, ((0, 1, 1, 0, 199), (0, 1, 1, 0, 1), (0, 1, 1, 0, 2)))
        self.assertEqual(earliest(book, (None,) * 3, 0), (2, 0, 1))

    def test_it_need_not_be_a_best_one(self):
        book = (WIDE, ((0, 1, 1, 0, 199), (0, 1, 1, 3, 199)))
        self.assertEqual(earliest(book, (None, None), 0), (0, 3))
        self.assertEqual(best(book, (None, None), 0)[0], (3, 3))

    def test_seven_barges(self):
        self.assertEqual(earliest((NARROW, (plain(0, 1),) * 7), OPEN, 5), (5, 6, 7, 8, 9, 10, 11))
        self.assertEqual(earliest((WIDE, (plain(0, 1),) * 7), OPEN, 5), (5,) * 7)


class Together(unittest.TestCase):
    def test_hours_that_are_good_for_both(self):
        book = (WIDE, ((0, 1, 1, 3, 199), (0, 1, 1, 0, 9), (4, 5, 1, 0, 199)))
        self.assertEqual(together(book, 0, 1), [3, 4, 5, 6, 7, 8])
        self.assertEqual(together(book, 1, 0), [3, 4, 5, 6, 7, 8])
        self.assertEqual(together(book, 0, 2), list(range(3, 12)))
        self.assertEqual(together(book, 2, 1), list(range(9)))

    def test_depths_by_hours(self):
        book = (((1, 2, (5, 9, 7)),), ((0, 1, 8, 0, 199), (0, 1, 6, 0, 199), (0, 1, 9, 0, 199)))
        self.assertEqual(together(book, 0, 2), [1, 4, 7, 10])
        self.assertEqual(together(book, 0, 1), [1, 4, 7, 10])

    def test_no_room_for_two(self):
        book = (((1, 1, (9,)), (1, 2, (9,))), (plain(0, 1), plain(0, 2), plain(1, 2)))
        self.assertEqual(together(book, 0, 1), [])
        self.assertEqual(together(book, 1, 2), list(range(12)))
        self.assertEqual(together(book, 0, 2), list(range(12)))

    def test_crossed_ones(self):
        book = (WIDE, (plain(0, 3), plain(2, 5), plain(3, 4)))
        self.assertEqual((together(book, 0, 1), together(book, 1, 0)), ([], []))
        self.assertEqual(together(book, 1, 2), list(range(12)))
        self.assertEqual(together(book, 0, 2), list(range(12)))

    def test_what_speaks_against_others_does_not_matter(self):
        book = (WIDE, (plain(0, 1), plain(0, 1), (0, 1, 1, 99, 0)))
        self.assertEqual(together(book, 0, 1), list(range(12)))
        self.assertEqual(together(book, 0, 2), [])

    def test_a_barge_and_itself_are_not_two(self):
        book = (WIDE, (plain(0, 1), plain(0, 1)))
        self.assertEqual((together(book, 0, 0), together(book, 1, 1)), ([], []))

    def test_barges_that_the_book_does_not_have(self):
        book = (WIDE, (plain(0, 1), plain(0, 1)))
        for one, other in ((0, 2), (2, 0), (-1, 0), (0, -1), (-1, -2), (7, 9), (-2, 1), (1, -2)):
            self.assertEqual(together(book, one, other), [])
        self.assertEqual(together((WIDE, ()), 0, 1), [])

    def test_against_the_refusals(self):
        for book, _, _ in chance_starts(60, 12, 2, 7):
            many = len(book[1])
            for one in range(many):
                for other in set(range(many)) - {one}:
                    plans = [given(given((None,) * many, one, hour), other, hour) for hour in range(12)]
                    hours = [hour for hour, plan in enumerate(plans) if not told_against(book, plan)]
                    self.assertEqual(together(book, one, other), hours)


class NotGood(Refused):
    def test_a_start_that_is_not_good(self):
        for book, plan in samples.NOT_GOOD:
            for start in (plan, plan + (None,)):
                whole = book if start == plan else (book[0], book[1] + ((0, 1, 1, 0, 199),))
                for call in (best, counted, earliest):
                    for now in (0, 6, 12):
                        with self.subTest(start=start, call=call, now=now):
                            self.refused(BadPlan, call, whole, start, now)


if __name__ == "__main__":
    unittest.main()

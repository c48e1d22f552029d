"""Point 12: barges that are late or lost, and that best mends the plan."""

import unittest

from tests import samples
from tests.oracle import chance_starts, gone_through, told_against, worth_told
from tests.refused import Refused
from tests.samples import NO_NUMBERS, RIVER, WIDE, plain, swapped
from towbarges.errors import BadBook, BadPlan, Gone, NoPlan
from towbarges.mending import late, lost
from towbarges.planning import best

BARGES = ((0, 1, 1, 0, 199), (1, 3, 2, 3, 50), (0, 3, 3, 1, 60), (2, 3, 4, 4, 70))
BOOK = (RIVER, BARGES)
PLAN = (2, 3, 7, 3)


class Late(Refused):
    def test_the_barge_is_ready_at_another_time(self):
        mended = (BARGES[0], BARGES[1], (0, 3, 3, 9, 60), BARGES[3])
        self.assertEqual(late(BOOK, PLAN, 3, 2, 9), ((RIVER, mended), (2, None, None, None)))
        self.assertEqual(late(BOOK, PLAN, 4, 2, 9), ((RIVER, mended), (2, 3, None, 3)))
        self.assertEqual(late(BOOK, PLAN, 0, 2, 9), ((RIVER, mended), (None,) * 4))

    def test_each_barge(self):
        for barge in range(4):
            for ready in (0, 1, 50, 99):
                (stretches, barges), start = late(BOOK, PLAN, 1, barge, ready)
                self.assertEqual((stretches, start), (RIVER, (None,) * 4))
                self.assertEqual(barges, swapped(BARGES, barge, swapped(BARGES[barge], 3, ready)))

    def test_the_same_time_and_an_earlier_one(self):
        self.assertEqual(late(BOOK, PLAN, 0, 1, 3), (BOOK, (None,) * 4))
        self.assertEqual(late(BOOK, PLAN, 3, 1, 0)[0][1][1], (1, 3, 2, 0, 50))

    def test_a_time_beyond_due(self):
        book, start = late(BOOK, PLAN, 3, 1, 99)
        self.assertEqual(book[1][1], (1, 3, 2, 99, 50))
        self.refused(NoPlan, best, book, start, 3)

    def test_best_mends_it(self):
        # the last stretch has room for two of the three barges that have not left
        book, start = late(BOOK, PLAN, 3, 2, 5)
        self.assertEqual(best(book, start, 3)[0], (2, 3, 5, 3))
        book, start = late(BOOK, PLAN, 2, 0, 5)
        self.assertEqual(worth_told(book, best(book, start, 2)[0]), (2, 8))

    def test_a_ready_that_cannot_be(self):
        for ready in NO_NUMBERS + (-1, 100, 199):
            for now in (0, 7):
                with self.subTest(ready=ready, now=now):
                    self.refused(BadBook, late, BOOK, PLAN, now, 2, ready)

    def test_a_ready_that_cannot_be_comes_last(self):
        for ready in NO_NUMBERS + (-1, 100):
            self.refused(Gone, late, BOOK, PLAN, 8, 2, ready)
            self.refused(BadPlan, late, BOOK, (2, 3, None, 3), 0, 2, ready)
            self.refused(BadPlan, late, BOOK, (2, 3, 0, 3), 8, 2, ready)
            self.refused(BadPlan, late, BOOK, None, 8, 2, ready)


class Lost(Refused):
    def test_the_barge_is_gone(self):
        self.assertEqual(lost(BOOK, PLAN, 3, 2), ((RIVER, BARGES[:2] + BARGES[3:]), (2, None, None)))
        self.assertEqual(lost(BOOK, PLAN, 3, 1), ((RIVER, BARGES[:1] + BARGES[2:]), (2, None, None)))
        self.assertEqual(lost(BOOK, PLAN, 4, 2), ((RIVER, BARGES[:2] + BARGES[3:]), (2, 3, 3)))
        self.assertEqual(lost(BOOK, PLAN, 0, 0), ((RIVER, BARGES[1:]), (None, None, None)))
        self.assertEqual(lost(BOOK, PLAN, 3, 3), ((RIVER, BARGES[:3]), (2, None, None)))

    def test_the_only_barge(self):
        self.assertEqual(lost((WIDE, (plain(0, 8),)), (11,), 11, 0), ((WIDE, ()), ()))

    def test_like_barges(self):
        book = (WIDE, (plain(0, 8),) * 7)
        plan = (0, 1, 2, 3, 4, 5, 6)
        told = ((WIDE, (plain(0, 8),) * 6), (0, 1, 2, None, None, None))
        for barge in (3, 4, 5, 6):
            self.assertEqual(lost(book, plan, 3, barge), told)

    def test_best_mends_it(self):
        book, start = lost(BOOK, PLAN, 3, 2)
        self.assertEqual(best(book, start, 3)[0], (2, 3, 3))


def calls():
    """late and lost, called alike."""
    return (lambda *given: late(*given, 5), lost)


class Both(Refused):
    def test_gone_is_a_tow_of_a_lesser_hour(self):
        for call in calls():
            for barge, hour in enumerate(PLAN):
                for now in range(13):
                    with self.subTest(call=call, barge=barge, now=now):
                        if hour < now:
                            self.refused(Gone, call, BOOK, PLAN, now, barge)
                        else:
                            call(BOOK, PLAN, now, barge)

    def test_the_ends_of_now(self):
        book = (WIDE, (plain(0, 1), plain(0, 1)))
        for call in calls():
            self.assertEqual(call(book, (0, 11), 0, 0)[1], (None,) * len(call(book, (0, 11), 0, 0)[0][1]))
            self.assertEqual(call(book, (0, 11), 11, 1)[1][0], 0)
            for barge in (0, 1):
                self.refused(Gone, call, book, (0, 11), 12, barge)

    def test_now_somewhat_beyond_its_limits(self):
        for call in calls():
            for barge in range(4):
                self.assertEqual(call(BOOK, PLAN, -3, barge), call(BOOK, PLAN, 0, barge))
                self.refused(Gone, call, BOOK, PLAN, 20, barge)

    def test_barges_that_the_book_does_not_have(self):
        for call in calls():
            for barge in (-1, -4, -5, 4, 7, 99):
                self.assertEqual(call(BOOK, PLAN, 4, barge), (BOOK, (2, 3, None, 3)))
            self.assertEqual(call((RIVER, ()), (), 4, 0), ((RIVER, ()), ()))
        self.refused(BadBook, late, BOOK, PLAN, 4, -1, 100)
        self.refused(BadBook, late, BOOK, PLAN, 4, 9, None)

    def test_open_barges(self):
        for call in calls():
            for plan in ((None, 3, 7, 3), (2, 3, 7, None), (None,) * 4):
                for now in (0, 4, 12):
                    for barge in range(4):
                        self.refused(BadPlan, call, BOOK, plan, now, barge)

    def test_plans_that_are_not_good(self):
        for call in calls():
            for book, plan in samples.NOT_GOOD:
                for now in (0, 12):
                    self.refused(BadPlan, call, book, plan, now, 0)

    def test_the_order_of_refusals(self):
        for call in calls():
            self.refused(BadBook, call, list(BOOK), PLAN, 12, 0)
            self.refused(BadBook, call, list(BOOK), None, 12, 0)
            self.refused(BadPlan, call, BOOK, list(PLAN), 12, 0)
            self.refused(BadPlan, call, BOOK, (2, 3, 0, 3), 12, 0)
            self.refused(BadPlan, call, BOOK, (2, 3, None, 3), 12, 0)
            self.refused(Gone, call, BOOK, PLAN, 12, 0)

    def test_chance(self):
        mended = 0
        for book, start, now in chance_starts(80, 5, 1, 4):
            for plan in gone_through(book, start, now)[:3]:
                for hour in (now, now + 1):
                    mended += self.mends(book, plan, hour)
        self.assertGreater(mended, 20)

    def mends(self, book, plan, now):
        """Mend a plan of each of its barges, and tell how many plans best found."""
        found = 0
        for call in (lambda *given: late(*given, 3), lost):
            for barge, hour in enumerate(plan):
                if hour < now:
                    self.refused(Gone, call, book, plan, now, barge)
                    continue
                after, start = call(book, plan, now, barge)
                self.assertEqual(told_against(after, start), [])
                kept = plan[:barge] + plan[barge + 1:] if call == lost else plan
                self.assertEqual(start, tuple(other if other < now else None for other in kept))
                plans = gone_through(after, start, now)
                if plans:
                    told = best(after, start, now)[0]
                    self.assertEqual(worth_told(after, told), min(worth_told(after, other) for other in plans))
                    found += 1
                else:
                    self.refused(NoPlan, best, after, start, now)
        return found


if __name__ == "__main__":
    unittest.main()

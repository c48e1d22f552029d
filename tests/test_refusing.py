"""Points 1, 2 and 4: what a book and a plan are, and that nothing that is handed in is changed."""

import copy
import unittest

from tests import samples
from towbarges.errors import BadBook, BadPlan
from tests.refused import Refused
from towbarges.judging import hours_alone, refusals, spare, worth
from towbarges.mending import late, lost
from towbarges.passing import depth_at, time_at
from towbarges.planning import best, counted, earliest, together
from towbarges.rows import journal, rows
from towbarges.showing import shows
from towbarges.texts import written

OF_A_START = (
    lambda book, start: best(book, start, 0),
    lambda book, start: counted(book, start, 0),
    lambda book, start: earliest(book, start, 12),
    lambda book, start: shows(book, start, 0, (13, 0), ("done",)),
)
OF_A_WHOLE_PLAN = (
    lambda book, plan: late(book, plan, 12, 0, 5),
    lambda book, plan: lost(book, plan, 12, 0),
)
OF_A_GOOD_PLAN = (spare, rows, journal) + OF_A_START + OF_A_WHOLE_PLAN
OF_A_PLAN = (refusals, worth, written) + OF_A_GOOD_PLAN
OF_A_BOOK = (
    lambda book: time_at(book, 0, 0),
    lambda book: depth_at(book, 0, 0),
    lambda book: hours_alone(book, 0),
    lambda book: together(book, 0, 1),
)


class Books(Refused):
    def test_books_at_the_limits_are_books(self):
        for book in samples.GOOD_BOOKS:
            with self.subTest(book=book):
                nothing = (None,) * len(book[1])
                self.assertEqual(refusals(book, nothing), [])
                self.assertEqual(worth(book, nothing), (0, 0))
                self.assertEqual(spare(book, nothing), list(nothing))
                self.assertEqual(rows(book, nothing), [])
                self.assertEqual(journal(book, nothing), [])
                for call in OF_A_BOOK:
                    call(book)

    def test_all_else_is_refused(self):
        for book in samples.bad_books():
            for call in OF_A_BOOK:
                with self.subTest(book=book, call=call):
                    self.refused(BadBook, call, book)
            for call in OF_A_PLAN:
                with self.subTest(book=book, call=call):
                    self.refused(BadBook, call, book, ())

    def test_a_bad_book_comes_ahead_of_a_bad_plan(self):
        for book in (None, samples.RIVER, list(samples.TWO), (samples.RIVER, ((1, 1, 1, 0, 9),))):
            for plan in samples.bad_plans():
                for call in OF_A_PLAN:
                    with self.subTest(book=book, plan=plan, call=call):
                        self.refused(BadBook, call, book, plan)

    def test_a_bad_book_comes_ahead_of_numbers_beyond_it(self):
        for number in (-1, 99):
            for arguments in (
                (depth_at, None, number, 0), (hours_alone, None, number), (time_at, None, number, 0),
                (together, None, number, number),
                (late, None, (), number, number, number), (lost, None, (), number, number),
                (best, None, (), number), (counted, None, (), number), (earliest, None, (), number),
                (shows, None, (), number, (0, 0), ("cases", number, ())),
            ):
                with self.subTest(arguments=arguments):
                    self.refused(BadBook, *arguments)


class Plans(Refused):
    def test_hours_at_the_limits_are_hours(self):
        for plan in ((0, 11), (11, 0), (None, 11), (0, None), (None, None)):
            with self.subTest(plan=plan):
                self.assertEqual(refusals(samples.TWO, plan), [])

    def test_all_else_is_refused(self):
        for plan in samples.bad_plans():
            for call in OF_A_PLAN:
                with self.subTest(plan=plan, call=call):
                    self.refused(BadPlan, call, samples.TWO, plan)

    def test_a_book_without_barges_has_one_plan(self):
        book = (samples.RIVER, ())
        for call in OF_A_PLAN:
            call(book, ())
            for plan in ((None,), (0,), [], None, ""):
                with self.subTest(plan=plan, call=call):
                    self.refused(BadPlan, call, book, plan)

    def test_a_book_of_seven_barges_has_plans_of_seven(self):
        book = (samples.WIDE, (samples.plain(0, 1),) * 7)
        self.assertEqual(refusals(book, (0, 1, 2, 3, 4, 5, 6)), [])
        for many in (6, 8):
            with self.subTest(many=many):
                self.refused(BadPlan, refusals, book, (0,) * many)

    def test_a_plan_that_is_not_good_is_refused(self):
        words = []
        for book, plan in samples.NOT_GOOD:
            words += [cause[0] for cause in refusals(book, plan)]
            for call in OF_A_GOOD_PLAN:
                with self.subTest(plan=plan, call=call):
                    self.refused(BadPlan, call, book, plan)
        self.assertEqual(words, ["early", "late", "shallow", "full", "crossed"])

    def test_a_plan_with_open_barges_is_refused_where_it_must_be_whole(self):
        for plan in ((None, None), (3, None), (None, 3)):
            for call in OF_A_WHOLE_PLAN:
                with self.subTest(plan=plan, call=call):
                    self.refused(BadPlan, call, samples.TWO, plan)


class Told(Refused):
    BOOK = (samples.RIVER, ((0, 3, 40, 0, 20), (1, 2, 80, 2, 9), (0, 1, 1, 0, 99)))
    PLAN = (1, 1, None)

    def calls(self):
        """Each call that tells a list."""
        return [
            lambda: refusals(self.BOOK, (0, 11, 0)),
            lambda: hours_alone(self.BOOK, 1),
            lambda: spare(self.BOOK, self.PLAN),
            lambda: rows(self.BOOK, self.PLAN),
            lambda: journal(self.BOOK, self.PLAN),
            lambda: together(self.BOOK, 0, 2),
        ]

    def spoil(self, told):
        """Change a list that was told, and all lists in it."""
        for row in told:
            if isinstance(row, list):
                self.spoil(row)
            elif isinstance(row, tuple):
                for part in row:
                    if isinstance(part, list):
                        self.spoil(part)
        told.reverse()
        told.append("spoiled")

    def test_a_list_that_is_changed_touches_no_later_answer(self):
        for call in self.calls():
            told = call()
            kept = copy.deepcopy(told)
            self.assertNotEqual(kept, [])
            self.spoil(told)
            self.assertNotEqual(told, kept)
            self.assertEqual(call(), kept)

    def test_the_lists_of_one_answer_are_lists_of_their_own(self):
        book = (samples.RIVER, ())
        told = hours_alone((samples.RIVER, (samples.plain(0, 1),)), 0)
        told[0].append("spoiled")
        self.assertEqual(told[1:], [[]] * 11)
        told = hours_alone(book, 3)
        told[0].append("spoiled")
        self.assertEqual(told[1:], [[]] * 11)

    def test_the_list_of_none_together_may_be_changed(self):
        for one, other in ((0, 0), (0, 9)):
            together(self.BOOK, one, other).append("spoiled")
            self.assertEqual(together(self.BOOK, one, other), [])

    def test_a_refused_list_is_not_changed(self):
        book = [[[2, 2, [50]]], [[0, 1, 1, 0, 9]]]
        plan = [0]
        for call in OF_A_PLAN:
            self.refused(BadBook, call, book, plan)
            self.refused(BadPlan, call, samples.TWO, plan)
        self.assertEqual((book, plan), ([[[2, 2, [50]]], [[0, 1, 1, 0, 9]]], [0]))


if __name__ == "__main__":
    unittest.main()

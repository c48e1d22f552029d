"""Points 1, 2 and 4: what a book and a plan are, and that nothing that is handed in is changed."""

import copy
import unittest

from tests import samples
from towbarges.errors import BadBook, BadPlan
from towbarges.judging import hours_alone, refusals, spare, worth
from towbarges.passing import depth_at, time_at
from towbarges.rows import journal, rows

OF_A_PLAN = (refusals, worth, spare, rows, journal)
OF_A_GOOD_PLAN = (spare, rows, journal)
OF_A_BOOK = (
    lambda book: time_at(book, 0, 0),
    lambda book: depth_at(book, 0, 0),
    lambda book: hours_alone(book, 0),
)


class Books(unittest.TestCase):
    def test_books_at_the_limits_are_books(self):
        for book in samples.GOOD_BOOKS:
            with self.subTest(book=book):
                nothing = (None,) * len(book[1])
                self.assertEqual(refusals(book, nothing), [])
                self.assertEqual(worth(book, nothing), (0, 0))
                self.assertEqual(spare(book, nothing), list(nothing))
                self.assertEqual(rows(book, nothing), [])
                self.assertEqual(journal(book, nothing), [])
                for call in OF_A_BOOK:
                    call(book)

    def test_all_else_is_refused(self):
        for book in samples.bad_books():
            for call in OF_A_BOOK:
                with self.subTest(book=book, call=call), self.assertRaises(BadBook):
                    call(book)
            for call in OF_A_PLAN:
                with self.subTest(book=book, call=call), self.assertRaises(BadBook):
                    call(book, ())

    def test_a_bad_book_comes_ahead_of_a_bad_plan(self):
        for book in (None, samples.RIVER, list(samples.TWO), (samples.RIVER, ((1, 1, 1, 0, 9),))):
            for plan in samples.bad_plans():
                for call in OF_A_PLAN:
                    with self.subTest(book=book, plan=plan, call=call), self.assertRaises(BadBook):
                        call(book, plan)

    def test_a_bad_book_comes_ahead_of_numbers_beyond_it(self):
        for number in (-1, 99):
            for call in (lambda book: depth_at(book, number, 0), lambda book: hours_alone(book, number)):
                with self.subTest(number=number), self.assertRaises(BadBook):
                    call(None)


class Plans(unittest.TestCase):
    def test_hours_at_the_limits_are_hours(self):
        for plan in ((0, 11), (11, 0), (None, 11), (0, None), (None, None)):
            with self.subTest(plan=plan):
                self.assertEqual(refusals(samples.TWO, plan), [])

    def test_all_else_is_refused(self):
        for plan in samples.bad_plans():
            for call in OF_A_PLAN:
                with self.subTest(plan=plan, call=call), self.assertRaises(BadPlan):
                    call(samples.TWO, plan)

    def test_a_book_without_barges_has_one_plan(self):
        book = (samples.RIVER, ())
        for call in OF_A_PLAN:
            call(book, ())
            for plan in ((None,), (0,), [], None, ""):
                with self.subTest(plan=plan, call=call), self.assertRaises(BadPlan):
                    call(book, plan)

    def test_a_book_of_seven_barges_has_plans_of_seven(self):
        book = (samples.WIDE, (samples.plain(0, 1),) * 7)
        self.assertEqual(refusals(book, (0, 1, 2, 3, 4, 5, 6)), [])
        for many in (6, 8):
            with self.subTest(many=many), self.assertRaises(BadPlan):
                refusals(book, (0,) * many)

    def test_a_plan_that_is_not_good_is_refused(self):
        river = ((1, 1, (10,)), (1, 1, (10,)), (1, 1, (10,)))
        wide = ((1, 2, (10,)),) * 3
        causes = (
            ("early", (river, ((0, 1, 1, 5, 99),)), (4,)),
            ("late", (river, ((0, 1, 1, 0, 4),)), (4,)),
            ("shallow", (river, ((0, 1, 11, 0, 99),)), (4,)),
            ("full", (river, ((0, 1, 1, 0, 99),) * 2), (4, 4)),
            ("crossed", (wide, (samples.plain(0, 2), samples.plain(1, 3))), (4, 4)),
        )
        for word, book, plan in causes:
            self.assertEqual([cause[0] for cause in refusals(book, plan)], [word])
            for call in OF_A_GOOD_PLAN:
                with self.subTest(word=word, call=call), self.assertRaises(BadPlan):
                    call(book, plan)


class Told(unittest.TestCase):
    BOOK = (samples.RIVER, ((0, 3, 40, 0, 20), (1, 2, 80, 2, 9), (0, 1, 1, 0, 99)))
    PLAN = (1, 1, None)

    def calls(self):
        """Each call that tells a list."""
        return [
            lambda: refusals(self.BOOK, (0, 11, 0)),
            lambda: hours_alone(self.BOOK, 1),
            lambda: spare(self.BOOK, self.PLAN),
            lambda: rows(self.BOOK, self.PLAN),
            lambda: journal(self.BOOK, self.PLAN),
        ]

    def spoil(self, told):
        """Change a list that was told, and all lists in it."""
        for row in told:
            if isinstance(row, list):
                self.spoil(row)
            elif isinstance(row, tuple):
                for part in row:
                    if isinstance(part, list):
                        self.spoil(part)
        told.reverse()
        told.append("spoiled")

    def test_a_list_that_is_changed_touches_no_later_answer(self):
        for call in self.calls():
            told = call()
            kept = copy.deepcopy(told)
            self.assertNotEqual(kept, [])
            self.spoil(told)
            self.assertNotEqual(told, kept)
            self.assertEqual(call(), kept)

    def test_the_lists_of_one_answer_are_lists_of_their_own(self):
        book = (samples.RIVER, ())
        told = hours_alone((samples.RIVER, (samples.plain(0, 1),)), 0)
        told[0].append("spoiled")
        self.assertEqual(told[1:], [[]] * 11)
        told = hours_alone(book, 3)
        told[0].append("spoiled")
        self.assertEqual(told[1:], [[]] * 11)

    def test_a_refused_list_is_not_changed(self):
        book = [[[2, 2, [50]]], [[0, 1, 1, 0, 9]]]
        plan = [0]
        for call in OF_A_PLAN:
            with self.assertRaises(BadBook):
                call(book, plan)
            with self.assertRaises(BadPlan):
                call(samples.TWO, plan)
        self.assertEqual((book, plan), ([[[2, 2, [50]]], [[0, 1, 1, 0, 9]]], [0]))


if __name__ == "__main__":
    unittest.main()

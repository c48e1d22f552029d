"""Point 13: books and plans as texts."""

import unittest

from tests import samples
from tests.oracle import chance_books
from tests.refused import Refused
from tests.samples import RIVER, WIDE, plain
from towbarges.errors import BadBook, BadPlan, BadText
from towbarges.texts import read, written

BOOK = (RIVER, ((0, 3, 40, 0, 20), (1, 2, 80, 2, 9), (0, 1, 1, 99, 199)))
ROWS = (
    "stretch 2 2 50 90 70", "stretch 3 3 80", "stretch 1 2 60 40",
    "barge 0 3 40 0 20", "barge 1 2 80 2 9", "barge 0 1 1 99 199",
    "plan 4 - 11",
)
TEXT = "\n".join(ROWS)


def with_row(at, row):
    """The rows with another one at a place, as a text."""
    return "\n".join(ROWS[:at] + (row,) + ROWS[at + 1:])


class Written(Refused):
    def test_rows(self):
        self.assertEqual(written(BOOK, (4, None, 11)), TEXT)

    def test_a_plan_of_no_barges(self):
        self.assertEqual(written((RIVER[1:2], ()), ()), "stretch 3 3 80\nplan")

    def test_open_plans(self):
        text = "stretch 1 9 0\nbarge 0 1 1 0 0\nbarge 0 1 99 99 199\nplan "
        book = (((1, 9, (0,)),), ((0, 1, 1, 0, 0), (0, 1, 99, 99, 199)))
        for plan, words in (((None, None), "- -"), ((0, None), "0 -"), ((None, 11), "- 11"), ((10, 9), "10 9")):
            self.assertEqual(written(book, plan), text + words)
            self.assertEqual(read(text + words), (book, plan))

    def test_plans_that_are_not_good_are_written_too(self):
        for book, plan in samples.NOT_GOOD:
            self.assertEqual(read(written(book, plan)), (book, plan))

    def test_what_is_written_is_read_to_the_same_pair(self):
        for book, plan in chance_books(300):
            self.assertEqual(read(written(book, plan)), (book, plan))
        for book in samples.GOOD_BOOKS:
            for hour in (None, 0, 11):
                plan = (hour,) * len(book[1])
                self.assertEqual(read(written(book, plan)), (book, plan))

    def test_refusals(self):
        for plan in samples.bad_plans():
            self.refused(BadPlan, written, samples.TWO, plan)
            self.refused(BadBook, written, list(samples.TWO), plan)


class Read(Refused):
    def test_rows(self):
        self.assertEqual(read(TEXT), (BOOK, (4, None, 11)))

    def test_the_least_and_the_longest_text(self):
        self.assertEqual(read("stretch 1 1 0\nplan"), ((((1, 1, (0,)),), ()), ()))
        stretch = "stretch 9 9" + " 99" * 24
        text = "\n".join([stretch] * 8 + ["barge 0 8 99 99 199"] * 7 + ["plan" + " 11" * 7])
        book = (((9, 9, (99,) * 24),) * 8, ((0, 8, 99, 99, 199),) * 7)
        self.assertEqual(read(text), (book, (11,) * 7))

    def test_line_ends_and_blanks(self):
        other = [
            TEXT + "\n", "\n" + TEXT, TEXT + " ", " " + TEXT, TEXT.replace("\n", "\n\n"), TEXT.replace("\n", "\r\n"),
            TEXT.replace("\n", "\r"), TEXT.replace("\n", " "), TEXT.replace("\n", ";"), TEXT.replace("\n", " \n"),
            TEXT.replace("\n", "\n "), TEXT.replace(" ", "  "), TEXT.replace(" ", "\t"), TEXT.replace(" ", "\u00a0"),
            TEXT.replace("\n", "\x0b"), TEXT.replace("\n", "\x0c"), TEXT.replace("\n", "\u2028"), TEXT + "\r",
            TEXT.replace("\n", "\x85"), TEXT.replace(" ", ""), TEXT.replace(" ", ","), "\ufeff" + TEXT, TEXT + "\x00",
            TEXT.replace(" ", "\n"), "", " ", "\n", "\r\n", "-", "stretch 3 3 80\nplan ", "stretch 3 3 80\nplan\n",
        ]
        for text in other:
            with self.subTest(text=text):
                self.refused(BadText, read, text)

    def test_rows_of_other_words(self):
        stretches = ("", "stretch", "stretch 2", "stretch 2 2", "stretch 2 2 -", "stretch - 2 50", "stretch 2 2 50 x",
                     "Stretch 2 2 50", "stretches 2 2 50", "STRETCH 2 2 50", "2 2 50", "stretch 2 2 50,90", "s 2 2 50",
                     "stretch 2 2 (50)", "stretch stretch 2 2 50", "stretch: 2 2 50", "stretch 2 2 50 # deep")
        barges = ("", "barge", "barge 0 3 40 0", "barge 0 3 40 0 20 1", "barge 0 3 40 0 -", "barge - 3 40 0 20",
                  "Barge 0 3 40 0 20", "barges 0 3 40 0 20", "0 3 40 0 20", "barge 0 3 40 0 None",
                  "barge 0 3 forty 0 20")
        plans = ("", "Plan 4 - 11", "plans 4 - 11", "4 - 11", "plan 4 -- 11", "plan 4 None 11", "plan 4 x 11",
                 "plan 4 _ 11", "plan 4 - 11 plan", "plan: 4 - 11", "plan 4 \u2212 11", "-", "plan 4 + 11",
                 "plan  4 - 11", "plan 4 - 11 ")
        for at, told in ((0, stretches), (2, stretches), (3, barges), (5, barges), (6, plans)):
            for row in told:
                with self.subTest(at=at, row=row):
                    self.refused(BadText, read, with_row(at, row))

    def test_numbers_of_another_form(self):
        words = ("01", "00", "002", "000", "+2", "-2", "-0", "2.0", "2.", "0x2", "1_1", "1e1", "", "1000", "0002",
                 "99999", "\u0662", "\uff12", "\u00b2", "\u2460", "two", "II", "2L", "True", "None", "--", "2-", "'2'",
                 "2\r", "\x002")
        for word in words:
            for at, row in enumerate(ROWS):
                parts = row.split(" ")
                for place in range(1, len(parts)):
                    with self.subTest(at=at, place=place, word=word):
                        self.refused(BadText, read, with_row(at, " ".join(parts[:place] + [word] + parts[place + 1:])))

    def test_rows_at_another_place(self):
        one, two, three, four, five, six, plan = ROWS
        for rows in (
            (plan, one, two, three, four, five, six), (four, five, six, one, two, three, plan),
            (one, two, four, three, five, six, plan), (one, two, three, four, plan, five, six),
            (one, two, three, four, five, six, plan, plan), (one, two, three, four, five, six),
            (one, two, three, four, five, six, plan, one), (one, two, three, four, five, six, plan, six),
            (one, plan, two, three, four, five, six), (four, one, two, three, five, six, plan), (one, plan, plan),
            (plan, one, two, three, four, five, six, plan), (one, two, three), (four, five, six), (one, plan, four),
        ):
            with self.subTest(rows=rows):
                self.refused(BadText, read, "\n".join(rows))

    def test_no_book(self):
        for at, row in (
            (0, "stretch 0 2 50"), (0, "stretch 10 2 50"), (0, "stretch 2 0 50"), (0, "stretch 2 10 50"),
            (0, "stretch 2 2 100"), (0, "stretch 2 2 50 999"), (0, "stretch 2 2" + " 50" * 25), (2, "stretch 999 1 1"),
            (3, "barge 3 0 40 0 20"), (3, "barge 1 1 40 0 20"), (3, "barge 0 4 40 0 20"), (3, "barge 0 3 0 0 20"),
            (3, "barge 0 3 100 0 20"), (3, "barge 0 3 40 100 20"), (5, "barge 0 3 40 0 200"), (5, "barge 3 4 1 0 20"),
        ):
            with self.subTest(row=row):
                self.refused(BadBook, read, with_row(at, row))

    def test_too_few_or_too_many_rows(self):
        self.refused(BadBook, read, "plan")
        self.refused(BadBook, read, "barge 0 1 1 0 9\nplan 4")
        self.refused(BadBook, read, "stretch 1 1 1\n" * 9 + "plan")
        self.refused(BadBook, read, "stretch 1 1 1\n" + "barge 0 1 1 0 9\n" * 8 + "plan" + " 1" * 8)
        self.assertEqual(read("stretch 1 1 1\n" * 8 + "plan"), ((((1, 1, (1,)),) * 8, ()), ()))

    def test_no_plan(self):
        for row in ("plan", "plan 4", "plan 4 -", "plan 4 - 11 4", "plan 12 - 11", "plan 4 - 12", "plan 999 - -",
                    "plan" + " -" * 7, "plan 4 100 11"):
            with self.subTest(row=row):
                self.refused(BadPlan, read, with_row(6, row))
        self.refused(BadPlan, read, "stretch 1 1 1\nplan -")
        self.refused(BadPlan, read, "stretch 1 1 1\nplan 0")

    def test_the_order_of_refusals(self):
        no_book, no_plan, no_text = "stretch 0 2 50", "plan 12 - 11", "barge 0 1 1 99"
        self.refused(BadText, read, "\n".join((no_book,) + ROWS[1:5] + (no_text, no_plan)))
        self.refused(BadText, read, "\n".join((no_book,) + ROWS[1:6] + ("plan 12 - 011",)))
        self.refused(BadText, read, "\n".join((no_book,) + ROWS[1:6]))
        self.refused(BadBook, read, "\n".join((no_book,) + ROWS[1:6] + (no_plan,)))
        self.refused(BadPlan, read, "\n".join(ROWS[:6] + (no_plan,)))

    def test_what_is_read_is_written_to_the_same_text(self):
        for text in (TEXT, "stretch 3 3 80\nplan", "stretch 1 1 0 0\nbarge 0 1 1 0 0\nplan -"):
            self.assertEqual(written(*read(text)), text)

    def test_kinds(self):
        (stretches, barges), plan = read(TEXT)
        for row in (stretches, barges, plan, stretches[0], stretches[0][2], barges[0]):
            self.assertIs(type(row), tuple)
        self.assertIs(type(stretches[0][2][0]), int)
        self.assertEqual(written((WIDE, (plain(0, 1),)), (None,)).split("\n")[-1], "plan -")


if __name__ == "__main__":
    unittest.main()

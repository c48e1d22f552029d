"""Point 11: what a table shows, and what shows nothing."""

import unittest

from tests import samples
from tests.oracle import chance_starts, given, gone_through, is_shown, made_table, worth_told
from tests.refused import Refused
from tests.samples import WIDE, plain
from towbarges.errors import BadBook, BadPlan, NoPlan
from towbarges.planning import best
from towbarges.showing import shows

DONE = ("done",)
# both barges may go at 3, 4 and 5; one stretch with room for both
PAIR = (((1, 2, (9,)),), ((0, 1, 1, 3, 6), (0, 1, 1, 3, 6)))
APART = (((1, 1, (9,)),), ((0, 1, 1, 3, 6), (0, 1, 1, 3, 6)))


def changed_tables(table):
    """Tables with something in them another: one case left out, doubled, swapped, at another hour, cut short."""
    told = [(), table + (0,), table[:-1], (table,), (table[0].upper(),) + table[1:]]
    if table == DONE:
        return told + [("cases", 0, ()), ("done", ()), ("cases",)]
    word, barge, rows = table
    told += [DONE, ("done", barge, rows), (word, rows, barge), (word, barge, rows, ())]
    told += [(word, barge + step, rows) for step in (-8, -1, 1, 8)]
    told += [(word, barge, rows + more) for more in (((0, DONE),), ((11, DONE),), ((12, DONE),), ((),), (0,), ("",))]
    told += [(word, barge, rows + rows[:1]), (word, barge, rows[::-1]), (word, barge, (rows,)), (word, barge, word)]
    for at, (hour, below) in enumerate(rows):
        head, tail = rows[:at], rows[at + 1:]
        told.append((word, barge, head + tail))
        others = [(hour - 1, below), (hour + 1, below), (below, hour), (hour,), (hour, below, 0), hour, below]
        told += [(word, barge, head + (other,) + tail) for other in others + ["ab", (hour, hour), (hour, "done")]]
        told += [(word, barge, head + ((hour, other),) + tail) for other in changed_tables(below)[:12]]
    return told


def has_form(table):
    """Whether a table is of one of both forms throughout."""
    if table == DONE:
        return True
    if not isinstance(table, tuple) or len(table) != 3 or table[0] != "cases":
        return False
    _, barge, rows = table
    if not isinstance(barge, int) or not isinstance(rows, tuple):
        return False
    pairs = all(isinstance(row, tuple) and len(row) == 2 and isinstance(row[0], int) for row in rows)
    return pairs and all(has_form(row[1]) for row in rows)


class Done(unittest.TestCase):
    def test_no_barge_is_open_and_the_worth_is_not_better(self):
        plan = (4, 5)
        told = (((2, 3), True), ((2, 2), True), ((2, 4), False), ((1, 99), True), ((3, 0), False), ((13, 0), False))
        for worth, is_so in told:
            for now in (0, 5, 12):
                with self.subTest(worth=worth, now=now):
                    self.assertIs(shows(PAIR, plan, now, worth, DONE), is_so)

    def test_a_barge_is_open(self):
        for start in ((None, None), (3, None), (None, 5)):
            for worth in ((0, 0), (1, 0), (13, 0)):
                with self.subTest(start=start, worth=worth):
                    self.assertIs(shows(PAIR, start, 0, worth, DONE), False)

    def test_a_book_without_barges(self):
        book = (WIDE, ())
        self.assertIs(shows(book, (), 0, (0, 0), DONE), True)
        self.assertIs(shows(book, (), 0, (0, 1), DONE), False)
        self.assertIs(shows(book, (), 0, (13, 0), DONE), False)
        self.assertIs(shows(book, (), 0, (0, 0), ("cases", 0, ())), False)


class Cases(unittest.TestCase):
    def test_a_table_of_two_barges_that_go_together(self):
        # the best plan is (3, 3), of worth (1, 0)
        start = (None, None)
        self.assertIs(shows(PAIR, start, 0, (1, 0), ("cases", 0, ())), True)
        self.assertIs(shows(PAIR, start, 0, (0, 9), ("cases", 1, ())), True)
        self.assertIs(shows(PAIR, start, 0, (1, 0), ("cases", 0, ((3, ("cases", 1, ())),))), False)
        for rows in ((), ((3, ("cases", 1, ())),), ((3, ("cases", 1, ((3, DONE),))),)):
            self.assertIs(shows(PAIR, start, 0, (1, 1), ("cases", 0, rows)), False)

    def test_a_table_of_two_barges_that_go_apart(self):
        # the best plan is (3, 4) or (4, 3), of worth (2, 1), and at 4 it is (4, 5) or (5, 4), of worth (2, 3)
        start, end = (None, None), ("cases", 1, ())
        all_hours = ("cases", 0, ((3, end), (4, end), (5, end)))
        from_four = ("cases", 0, ((4, end), (5, end)))
        for now in (0, 2, 3):
            self.assertIs(shows(APART, start, now, (2, 1), all_hours), True)
            self.assertIs(shows(APART, start, now, (2, 0), all_hours), True)
            self.assertIs(shows(APART, start, now, (2, 2), all_hours), False)
            self.assertIs(shows(APART, start, now, (2, 1), from_four), False)
        self.assertIs(shows(APART, start, 4, (2, 3), from_four), True)
        self.assertIs(shows(APART, start, 4, (2, 4), from_four), False)
        self.assertIs(shows(APART, start, 4, (2, 3), all_hours), False)
        self.assertIs(shows(APART, start, 4, (1, 1), ("cases", 0, ())), True)
        self.assertIs(shows(APART, start, 4, (1, 2), ("cases", 0, ((4, end),))), True)
        self.assertIs(shows(APART, start, 5, (13, 0), ("cases", 0, ((5, end),))), True)
        self.assertIs(shows(APART, start, 6, (13, 0), ("cases", 0, ())), True)

    def test_one_of_the_cases_does_not_show_it(self):
        end = ("cases", 1, ())
        for at in range(3):
            rows = tuple((hour, DONE if hour == 3 + at else end) for hour in (3, 4, 5))
            self.assertIs(shows(APART, (None, None), 0, (2, 1), ("cases", 0, rows)), False)

    def test_rows_rise(self):
        end = ("cases", 1, ())
        others = ((3, 5, 4), (5, 4, 3), (4, 3, 5), (3, 3, 4, 5), (3, 4, 5, 5), (3, 4), (3, 5), (4, 5), (2, 3, 4, 5))
        for hours in others:
            rows = tuple((hour, end) for hour in hours)
            self.assertIs(shows(APART, (None, None), 0, (2, 1), ("cases", 0, rows)), False)

    def test_the_barge_is_an_open_one(self):
        for barge, is_so in ((0, False), (1, True), (2, False), (7, False), (-1, False), (-2, False)):
            self.assertIs(shows(APART, (3, None), 6, (13, 0), ("cases", barge, ())), is_so)
        self.assertIs(shows(APART, (3, 4), 6, (13, 0), ("cases", 0, ())), False)

    def test_a_start_that_is_not_better_has_no_rows(self):
        for worth in ((1, 0), (0, 5), (0, 0)):
            self.assertIs(shows(PAIR, (3, None), 0, worth, ("cases", 1, ())), True)
            self.assertIs(shows(PAIR, (3, None), 0, worth, ("cases", 1, ((3, DONE),))), False)

    def test_now_somewhat_beyond_its_limits(self):
        # barge 1 has no hour
        book = (WIDE, (plain(5, 6), (0, 1, 1, 99, 0)))
        start, end = (None, None), ("cases", 1, ())
        rows = tuple((hour, end) for hour in range(12))
        for now in (-2, -1, 0):
            self.assertIs(shows(book, start, now, (13, 0), ("cases", 0, rows)), True)
            self.assertIs(shows(book, start, now, (13, 0), ("cases", 0, rows[1:])), False)
            self.assertIs(shows(book, start, now, (13, 0), ("cases", 0, ((-1, end),) + rows)), False)
        for now in (12, 13, 20):
            self.assertIs(shows(book, start, now, (13, 0), ("cases", 0, ())), True)
            self.assertIs(shows(book, start, now, (13, 0), ("cases", 0, rows[11:])), False)
            self.assertIs(shows(book, start, now, (13, 0), ("cases", 0, ((12, end),))), False)

    def test_true_is_no_number(self):
        no_hour = (WIDE, (plain(0, 1), plain(0, 1), (0, 1, 1, 99, 0)))
        rows = tuple((hour, ("cases", 2, ())) for hour in range(12))
        self.assertIs(shows(no_hour, (5, None, None), 0, (13, 0), ("cases", 1, rows)), True)
        self.assertIs(shows(no_hour, (5, None, None), 0, (13, 0), ("cases", True, rows)), False)
        spoiled = rows[:1] + ((True, rows[1][1]),) + rows[2:]
        self.assertIs(shows(no_hour, (5, None, None), 0, (13, 0), ("cases", 1, spoiled)), False)


class Forms(unittest.TestCase):
    def test_tuples_of_another_form_show_nothing(self):
        tables = [
            (), ("done", 0), ("done", ()), ("done", "done"), ("Done",), ("",), (0,), (DONE,), ("done ",), ((),),
            ("cases",), ("cases", 0), ("cases", ()), ("cases", 0, (), ()), ("case", 0, ()), (0, "cases", ()),
            ("cases", (), 0), ("cases", "0", ()), ("cases", (0,), ()), ("cases", 0, 0), ("cases", 0, "", ()),
            ("cases", 0, ""), ("cases", 0, ((),)), ("cases", 0, "done"), ("cases", 0, DONE), ("done", 0, ()),
            ("cases", 0, (DONE,)), ("cases", 0, (0, DONE)), ("cases", 0, (0,)), ("cases", 0, ((11, 11),)),
            ("cases", 0, ((11, "done"),)), ("cases", 0, ((11, DONE, 0),)), ("cases", 0, ((DONE, 11),)),
            ("cases", 0, (("11", DONE),)), ("cases", 0, (((11,), DONE),)), "done", "cases", 0, ("cases", "", ()),
        ]
        # a start with all hours, one with an open barge and no hour left, one with just one hour left
        for book, start, now in ((PAIR, (3, 3), 0), (PAIR, (None, 3), 12), ((WIDE, (plain(0, 1),)), (None,), 11)):
            for table in tables:
                with self.subTest(start=start, table=table):
                    self.assertIs(shows(book, start, now, (0, 0), table), False)
                    self.assertIs(shows(book, start, now, (13, 0), table), False)
        self.assertIs(shows(PAIR, (3, 3), 0, (0, 0), DONE), True)
        self.assertIs(shows(PAIR, (None, 3), 12, (13, 0), ("cases", 0, ())), True)
        self.assertIs(shows((WIDE, (plain(0, 1),)), (None,), 11, (1, 11), ("cases", 0, ())), True)
        self.assertIs(shows((WIDE, (plain(0, 1),)), (None,), 11, (1, 12), ("cases", 0, ((11, DONE),))), False)

    def test_lists_are_no_tuples(self):
        table = ("cases", 0, ((11, ("cases", 1, ())),))
        book = (WIDE, (plain(0, 1), (0, 1, 1, 99, 0)))
        self.assertIs(shows(book, (None, None), 11, (13, 0), table), True)
        for other in (
            list(table), ("cases", 0, [(11, ("cases", 1, ()))]), ("cases", 0, ([11, ("cases", 1, ())],)),
            ("cases", 0, ((11, ["cases", 1, ()]),)), ("cases", 0, ((11, ("cases", 1, [])),)), ["done"], None,
        ):
            with self.subTest(other=other):
                self.assertIs(shows(book, (None, None), 11, (13, 0), other), False)

    def test_a_table_may_be_deeper_than_the_barges(self):
        table = DONE
        for _ in range(3000):
            table = ("cases", 0, ((11, table),))
        self.assertIs(shows((WIDE, (plain(0, 1),) * 7), (None,) * 7, 11, (13, 0), table), False)


class Chance(unittest.TestCase):
    def tables(self, book, start, now):
        """The best worth and its table, or the worth (13, 0) and the table of NoPlan."""
        try:
            plan, table = best(book, start, now)
        except NoPlan as none:
            return (13, 0), none.table
        return worth_told(book, plan), table

    def test_tables_with_something_in_them_another(self):
        seen = {True: 0, False: 0}
        for book, start, now in list(chance_starts(40, 4, 0, 3)) + list(chance_starts(25, 2, 4, 7)):
            worth, table = self.tables(book, start, now)
            self.assertIs(shows(book, start, now, worth, table), True)
            for other in changed_tables(table):
                wanted = has_form(other) and is_shown(book, start, now, worth, other)
                self.assertIs(shows(book, start, now, worth, other), wanted, (book, start, now, worth, other))
                seen[wanted] += 1
        self.assertGreater(seen[False], 1000)

    def test_other_worths(self):
        seen = {True: 0, False: 0}
        for book, start, now in chance_starts(60, 5, 0, 4):
            (tows, waits), table = self.tables(book, start, now)
            near = [(tows, waits + step) for step in (-2, -1, 1, 2)]
            for worth in near + [(tows - 1, waits), (tows - 1, 99), (tows + 1, 0), (0, 0), (13, 0), (-1, 3)]:
                wanted = is_shown(book, start, now, worth, table)
                self.assertIs(shows(book, start, now, worth, table), wanted)
                seen[wanted] += 1
        self.assertTrue(min(seen.values()) > 20, seen)

    def test_tables_of_another_start_and_another_hour(self):
        for book, start, now in chance_starts(60, 5, 1, 4):
            worth, table = self.tables(book, start, now)
            for other in range(max(0, now - 2), 13):
                self.assertIs(shows(book, start, other, worth, table), is_shown(book, start, other, worth, table))
            for barge, hour in enumerate(start):
                if hour is not None:
                    other = given(start, barge, None)
                    self.assertIs(shows(book, other, now, worth, table), is_shown(book, other, now, worth, table))

    def test_tables_that_pick_other_barges(self):
        for book, start, now in chance_starts(60, 4, 0, 4):
            worth, _ = self.tables(book, start, now)
            for pick in (min, max, lambda left: left[len(left) // 2]):
                table = made_table(book, start, now, worth, pick)
                self.assertIs(shows(book, start, now, worth, table), True)

    def test_no_table_shows_a_worth_than_which_a_plan_is_better(self):
        for book, start, now in chance_starts(40, 4, 0, 4):
            plans = gone_through(book, start, now)
            if plans:
                tows, waits = min(worth_told(book, plan) for plan in plans)
                for worth in ((tows, waits + 1), (tows + 1, 0), (13, 0)):
                    for pick in (min, max):
                        table = made_table(book, start, now, worth, pick)
                        self.assertIs(shows(book, start, now, worth, table), False)


class Refusals(Refused):
    def test_a_start_that_is_not_good(self):
        for book, start in samples.NOT_GOOD:
            for table in (DONE, ("cases", 0, ()), ()):
                self.refused(BadPlan, shows, book, start, 0, (0, 0), table)

    def test_the_book_comes_first(self):
        self.refused(BadBook, shows, (WIDE,), (12,), 0, (0, 0), DONE)
        self.refused(BadPlan, shows, (WIDE, ()), (12,), 0, (0, 0), DONE)


if __name__ == "__main__":
    unittest.main()

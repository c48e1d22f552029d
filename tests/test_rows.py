"""Point 7: what tows couple and leave, and their rows on the way."""

import unittest

from tests.oracle import chance_books, told_against, walked
from tests.samples import RIVER, WIDE, plain
from towbarges.rows import journal, rows


def couple(place, *barges):
    return [("couple", place, barge) for barge in barges]


def leave(place, *barges):
    return [("leave", place, barge) for barge in barges]


class Rows(unittest.TestCase):
    def test_one_barge(self):
        book = (WIDE, (plain(2, 5),))
        self.assertEqual(rows(book, (4,)), [(4, couple(2, 0) + leave(5, 0))])

    def test_from_the_first_place_to_the_last(self):
        self.assertEqual(rows((((1, 1, (9,)),), (plain(0, 1),)), (0,)), [(0, couple(0, 0) + leave(1, 0))])
        self.assertEqual(rows((WIDE, (plain(0, 8),)), (11,)), [(11, couple(0, 0) + leave(8, 0))])

    def test_farther_goals_are_coupled_first(self):
        book = (WIDE, (plain(1, 3), plain(1, 5), plain(1, 4)))
        deeds = couple(1, 1, 2, 0) + leave(3, 0) + leave(4, 2) + leave(5, 1)
        self.assertEqual(rows(book, (0, 0, 0)), [(0, deeds)])

    def test_of_like_goals_the_lesser_numbers_are_coupled_first_and_left_last(self):
        book = (WIDE, (plain(1, 3), plain(1, 5), plain(1, 3), plain(1, 5)))
        deeds = couple(1, 1, 3, 0, 2) + leave(3, 2, 0) + leave(5, 3, 1)
        self.assertEqual(rows(book, (7,) * 4), [(7, deeds)])

    def test_barges_are_left_before_others_are_coupled(self):
        book = (WIDE, (plain(3, 6), plain(1, 3), plain(2, 3), plain(0, 6), plain(3, 4)))
        deeds = couple(0, 3) + couple(1, 1) + couple(2, 2) + leave(3, 2, 1) + couple(3, 0, 4)
        deeds += leave(4, 4) + leave(6, 0, 3)
        self.assertEqual(rows(book, (5,) * 5), [(5, deeds)])

    def test_seven_barges_of_one_tow(self):
        book = (WIDE, (plain(0, 8),) * 7)
        deeds = couple(0, 0, 1, 2, 3, 4, 5, 6) + leave(8, 6, 5, 4, 3, 2, 1, 0)
        self.assertEqual(rows(book, (11,) * 7), [(11, deeds)])

    def test_tows_come_by_hours_and_open_barges_in_none(self):
        book = (WIDE, (plain(0, 2), plain(1, 3), plain(0, 1), plain(0, 8)))
        told = [(2, couple(1, 1) + leave(3, 1)), (10, couple(0, 0, 2) + leave(1, 2) + leave(2, 0))]
        self.assertEqual(rows(book, (10, 2, 10, None)), told)

    def test_no_barge(self):
        self.assertEqual(rows((RIVER, ()), ()), [])
        self.assertEqual(rows((RIVER, (plain(0, 1),)), (None,)), [])


class Journal(unittest.TestCase):
    def test_each_stretch_is_told(self):
        book = (RIVER, (plain(0, 1), plain(0, 3), plain(1, 2)))
        stays = [(4, 90, (1, 0)), (6, 80, (1, 2)), (9, 40, (1,))]
        self.assertEqual(journal(book, (4, 4, 4)), [(4, stays)])

    def test_a_stretch_without_barges_is_told(self):
        book = (RIVER, (plain(1, 2),))
        self.assertEqual(journal(book, (0,)), [(0, [(0, 50, ()), (2, 80, (0,)), (5, 40, ())])])

    def test_the_row_is_told_from_first_to_last(self):
        book = (WIDE, (plain(1, 3), plain(1, 5), plain(1, 3), plain(2, 3), plain(0, 5)))
        held = [row for _, _, row in journal(book, (7,) * 5)[0][1]]
        self.assertEqual(held, [(4,), (4, 1, 0, 2), (4, 1, 0, 2, 3), (4, 1), (4, 1), (), (), ()])

    def test_tows_come_by_hours_and_open_barges_in_none(self):
        book = (((1, 9, (3, 4)),), (plain(0, 1),) * 4)
        told = [(0, [(0, 3, (2,))]), (11, [(11, 4, (0, 3))])]
        self.assertEqual(journal(book, (11, None, 0, 11)), told)

    def test_no_barge(self):
        self.assertEqual(journal((RIVER, ()), ()), [])
        self.assertEqual(journal((RIVER, (plain(0, 1),)), (None,)), [])


class Chance(unittest.TestCase):
    """Good plans of chance, whose deeds are done one by one."""

    def follow(self, book, hour, deeds, stays):
        """Do the deeds of a tow, and tell the barges that it took down."""
        stretches, barges = book
        row, taken, todo = [], [], list(deeds)
        for place, time in enumerate(walked(stretches, hour)):
            while todo and todo[0][1] == place:
                word, _, barge = todo.pop(0)
                if word == "leave":
                    self.assertEqual(barges[barge][1], place)
                    self.assertEqual(row.pop(), barge)
                else:
                    self.assertEqual(word, "couple")
                    self.assertEqual(barges[barge][0], place)
                    row.append(barge)
                    taken.append(barge)
            if place < len(stretches):
                depths = stretches[place][2]
                self.assertEqual(stays[place], (time, (depths * 200)[time], tuple(row)))
        self.assertEqual((row, todo), ([], []))
        return taken

    def test_deeds_are_done_in_their_order(self):
        many = 0
        for book, plan in chance_books(1500):
            if told_against(book, plan):
                continue
            many += 1
            hours = sorted(set(plan) - {None})
            told, held = rows(book, plan), journal(book, plan)
            self.assertEqual(([hour for hour, _ in told], [hour for hour, _ in held]), (hours, hours))
            for (hour, deeds), (_, stays) in zip(told, held, strict=True):
                self.assertEqual(len(stays), len(book[0]))
                taken = self.follow(book, hour, deeds, stays)
                with_it = [at for at, given in enumerate(plan) if given == hour]
                self.assertEqual(sorted(taken), with_it)
                order = [(book[1][barge][0], -book[1][barge][1], barge) for barge in taken]
                self.assertEqual(order, sorted(order))
        self.assertGreater(many, 150)


if __name__ == "__main__":
    unittest.main()

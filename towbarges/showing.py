"""Tables of cases: making one, and telling whether one shows that no plan is better than a worth."""

from towbarges.checking import HOURS, is_number, is_row
from towbarges.judging import (
    against_barge, check_good, crossed_barges, full_stretches, hours_of, members, waiting,
)


def hours_from(now):
    """Tell the hours of tows that have not left, rising."""
    return list(range(max(now, 0), HOURS))


def open_barges(plan):
    """Tell the barges that have no hour, rising."""
    return tuple(members(plan, None))


def with_hour(plan, barge, hour):
    """Tell a plan in which a barge has an hour, and the others have what they had."""
    return plan[:barge] + (hour,) + plan[barge + 1:]


class Choices:
    """Which hours the open barges of a good plan may still have.

    A table may have very many cases of one book, so what rests on its barges alone is kept, not told anew.
    """

    def __init__(self, book, now):
        stretches, barges = book
        self.book = book
        self.waits = [[waiting(stretches, barge, hour) for hour in range(HOURS)] for barge in barges]
        self.alone = []
        for number in range(len(barges)):
            self.alone.append([hour for hour in hours_from(now) if not against_barge(book, number, hour)])
        self.sharing = {}

    def share(self, numbers):
        """Tell whether barges have room in one tow and are not crossed there, which no hour changes."""
        party = tuple(sorted(numbers))
        if party not in self.sharing:
            plan = tuple(0 if number in party else None for number in range(len(self.waits)))
            self.sharing[party] = not full_stretches(self.book, plan) and not crossed_barges(self.book, plan)
        return self.sharing[party]

    def worth_of(self, plan):
        """Tell how many tows a plan has, and how long its barges wait together."""
        waits = [self.waits[number][hour] for number, hour in enumerate(plan) if hour is not None]
        return len(hours_of(plan)), sum(waits)

    def better_hours(self, plan, barge, worth):
        """Tell the hours, rising, by which a good plan with an open barge stays good and better than a worth."""
        tows, waited = self.worth_of(plan)
        told = []
        for hour in self.alone[barge]:
            more = 0 if hour in plan else 1
            better = (tows + more, waited + self.waits[barge][hour]) < worth
            if better and self.share(members(plan, hour) + [barge]):
                told.append(hour)
        return told


def table_for(choices, plan, worth):
    """Tell a table of a good plan for a worth than which no plan that it leads to is better."""
    if None not in plan:
        return ("done",)
    cases = [(choices.better_hours(plan, barge, worth), barge) for barge in open_barges(plan)]
    # the barge with the fewest hours makes the smallest table
    hours, barge = min(cases, key=lambda case: len(case[0]))
    rows = [(hour, table_for(choices, with_hour(plan, barge, hour), worth)) for hour in hours]
    return ("cases", barge, tuple(rows))


def is_open(plan, barge):
    """Tell whether a value is the number of a barge that has no hour."""
    return is_number(barge, 0, len(plan) - 1) and plan[barge] is None


def shows_it(choices, plan, worth, table):
    """Tell whether a table shows of a good plan that none it leads to is better than a worth."""
    if table == ("done",):
        return None not in plan and choices.worth_of(plan) >= worth
    if not is_row(table, 3, 3) or table[0] != "cases" or not is_open(plan, table[1]):
        return False
    _, barge, rows = table
    hours = choices.better_hours(plan, barge, worth)
    if not is_row(rows, len(hours), len(hours)):
        return False
    for hour, row in zip(hours, rows):
        if not is_row(row, 2, 2) or not is_number(row[0], hour, hour):
            return False
        if not shows_it(choices, with_hour(plan, barge, hour), worth, row[1]):
            return False
    return True


def shows(book, start, now, worth, table):
    """Tell whether a table shows that no plan on from a start is better than a worth."""
    check_good(book, start)
    return shows_it(Choices(book, now), start, worth, table)

"""The best plan from a start on, how many plans there are, the least of them, and who may go together."""

from towbarges.checking import HOURS, check_book
from towbarges.errors import NoPlan
from towbarges.judging import all_against, check_good, members
from towbarges.showing import Choices, hours_from, open_barges, table_for, with_hour

# no plan has so many tows, so each plan is better
WORST = (13, 0)


def groups(choices, start, hour):
    """Tell which open barges of a start may have an hour together: none, one, several."""
    aboard = members(start, hour)
    told = [()]
    for barge in open_barges(start):
        if hour in choices.alone[barge]:
            wider = [group + (barge,) for group in told]
            told.extend([group for group in wider if choices.share(aboard + list(group))])
    return told


def taken(told, rest):
    """Tell (group, left) for each group that is of the rest, with those of the rest that it leaves."""
    pairs = []
    for group in told:
        if all(barge in rest for barge in group):
            pairs.append((group, tuple(barge for barge in rest if barge not in group)))
    return pairs


def joined(plan, group, hour):
    """Tell a plan in which the barges of a group have an hour."""
    for barge in group:
        plan = with_hour(plan, barge, hour)
    return plan


def least(choices, start, now, rank):
    """Tell the plan without open barges from a good start on that has the least rank, None if there is none.

    What later hours may do rests on which barges are open alone, so of the plans with the same ones open the least
    is kept: the rank must order two of them as it orders them with the same later hours.
    """
    kept = {open_barges(start): start}
    for hour in hours_from(now):
        told = groups(choices, start, hour)
        after = {}
        for rest, plan in kept.items():
            for group, left in taken(told, rest):
                found = joined(plan, group, hour)
                if left not in after or rank(found) < rank(after[left]):
                    after[left] = found
        kept = after
    return kept.get(())


def best(book, start, now):
    """Tell a plan without open barges than which none from a start on is better, and a table that shows it."""
    check_good(book, start)
    choices = Choices(book, now)
    plan = least(choices, start, now, lambda found: choices.worth_of(found))
    if plan is None:
        raise NoPlan(table_for(choices, start, WORST))
    return plan, table_for(choices, start, choices.worth_of(plan))


def counted(book, start, now):
    """Tell how many good plans without open barges there are from a start on."""
    check_good(book, start)
    choices = Choices(book, now)
    # many plans have the same barges open, and go on in as many ways
    ways = {open_barges(start): 1}
    for hour in hours_from(now):
        told = groups(choices, start, hour)
        after = {}
        for rest, many in ways.items():
            for _, left in taken(told, rest):
                after[left] = after.get(left, 0) + many
        ways = after
    return ways.get((), 0)


def earliest(book, start, now):
    """Tell the least good plan without open barges from a start on, None if there is none."""
    check_good(book, start)
    return least(Choices(book, now), start, now, lambda found: found)


def together(book, one, other):
    """Tell the hours by which a plan is good in which two unlike barges alone have that hour."""
    check_book(book)
    many = len(book[1])
    # the document names no error for barges that are not two of the book
    if one == other or not 0 <= one < many or not 0 <= other < many:
        return []
    nobody = (None,) * many
    return [hour for hour in range(HOURS) if not all_against(book, joined(nobody, (one, other), hour))]

"""What stands of a plan when a barge is ready at another time, or lost."""

from towbarges.checking import is_ready
from towbarges.errors import BadBook, BadPlan, Gone
from towbarges.judging import check_good


def check_mending(book, plan, now, barge):
    """Refuse a plan that is not good or has open barges with BadPlan, a barge whose tow has left with Gone."""
    check_good(book, plan)
    if None in plan:
        raise BadPlan("a barge of the plan is open")
    # the document names no error for a barge that the book does not have
    if 0 <= barge < len(plan) and plan[barge] < now:
        raise Gone("the tow of the barge has left")


def standing(plan, now):
    """Tell the plan without open barges in which the hours of tows that have left alone stand."""
    return tuple(hour if hour < now else None for hour in plan)


def late(book, plan, now, barge, ready):
    """Tell the book in which a barge is ready at another time, and the start that stands of the plan."""
    check_mending(book, plan, now, barge)
    if not is_ready(ready):
        raise BadBook("a barge can't be ready then")
    stretches, barges = book
    told = []
    for number, old in enumerate(barges):
        told.append((old[0], old[1], old[2], ready, old[4]) if number == barge else old)
    return (stretches, tuple(told)), standing(plan, now)


def without(row, at):
    """Tell a tuple without the item at a place."""
    return tuple(item for place, item in enumerate(row) if place != at)


def lost(book, plan, now, barge):
    """Tell the book without a barge, and the start that stands of the plan."""
    check_mending(book, plan, now, barge)
    stretches, barges = book
    return (stretches, without(barges, barge)), without(standing(plan, now), barge)

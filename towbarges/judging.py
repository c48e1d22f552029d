"""What speaks against a plan, what it is worth, and what it has to spare."""

from towbarges.checking import HOURS, check_book, check_plan
from towbarges.errors import BadPlan
from towbarges.passing import arrival, depth_then


def hours_of(plan):
    """Tell the unlike hours of a plan, rising."""
    return sorted({hour for hour in plan if hour is not None})


def members(plan, hour):
    """Tell the barges that go with the tow of an hour, rising."""
    return [number for number, given in enumerate(plan) if given == hour]


def waiting(stretches, barge, hour):
    """Tell how long a barge waits for the tow of an hour."""
    begin, _, _, ready, _ = barge
    return arrival(stretches, begin, hour) - ready


def depths_on_way(stretches, barge, hour):
    """Tell (stretch, time, depth) of each stretch on the way of a barge."""
    told = []
    for stretch in range(barge[0], barge[1]):
        time = arrival(stretches, stretch, hour)
        told.append((stretch, time, depth_then(stretches, stretch, time)))
    return told


def against_barge(book, number, hour):
    """Tell what speaks against an hour for a barge alone."""
    stretches, barges = book
    barge = barges[number]
    begin, goal, draft, ready, due = barge
    told = []
    comes = arrival(stretches, begin, hour)
    if comes < ready:
        told.append(("early", number, comes))
    ends = arrival(stretches, goal, hour)
    if ends > due:
        told.append(("late", number, ends))
    for stretch, time, depth in depths_on_way(stretches, barge, hour):
        if depth < draft:
            told.append(("shallow", number, stretch, time, depth))
    return told


def against_barges(book, plan):
    """Tell what speaks against a plan for each barge alone."""
    told = []
    for number, hour in enumerate(plan):
        if hour is not None:
            told.extend(against_barge(book, number, hour))
    return told


def many_on(barges, numbers, stretch):
    """Tell how many of some barges are on a stretch."""
    return len([number for number in numbers if barges[number][0] <= stretch < barges[number][1]])


def full_stretches(book, plan):
    """Tell where tows have more barges than a stretch has room for."""
    stretches, barges = book
    told = []
    for hour in hours_of(plan):
        numbers = members(plan, hour)
        for stretch, (_, room, _) in enumerate(stretches):
            many = many_on(barges, numbers, stretch)
            if many > room:
                told.append(("full", hour, stretch, many))
    return told


def is_crossed(first, second):
    """Tell whether the first of two barges ends while the second, begun later, goes on."""
    return first[0] < second[0] < first[1] < second[1]


def crossed_barges(book, plan):
    """Tell which barges of one tow are crossed."""
    barges = book[1]
    told = []
    for one, hour in enumerate(plan):
        if hour is not None:
            for other in members(plan, hour):
                if is_crossed(barges[one], barges[other]):
                    told.append(("crossed", one, other))
    return told


def all_against(book, plan):
    """Tell all that speaks against what is known to be a plan of a book."""
    return against_barges(book, plan) + full_stretches(book, plan) + crossed_barges(book, plan)


def check_good(book, plan):
    """Refuse with BadBook what is no book, then with BadPlan what is no good plan of it."""
    check_plan(book, plan)
    if all_against(book, plan):
        raise BadPlan("the plan is not good")


def refusals(book, plan):
    """Tell all that speaks against a plan."""
    check_plan(book, plan)
    return all_against(book, plan)


def worth(book, plan):
    """Tell how many tows a plan has, and how long its barges wait together."""
    check_plan(book, plan)
    stretches, barges = book
    waits = [waiting(stretches, barges[at], hour) for at, hour in enumerate(plan) if hour is not None]
    return len(hours_of(plan)), sum(waits)


def hours_alone(book, barge):
    """Tell for each hour what speaks against it for a barge alone."""
    check_book(book)
    # the document names no error for a barge that the book does not have
    if not 0 <= barge < len(book[1]):
        return [[] for _ in range(HOURS)]
    return [against_barge(book, barge, hour) for hour in range(HOURS)]


def spare_of(stretches, barge, hour):
    """Tell (waiting, left, deeper) of a barge that goes with the tow of an hour."""
    _, goal, draft, _, due = barge
    left = due - arrival(stretches, goal, hour)
    least = min([depth for _, _, depth in depths_on_way(stretches, barge, hour)])
    return waiting(stretches, barge, hour), left, least - draft


def spare(book, plan):
    """Tell of a good plan how much each barge has to spare, None for an open one."""
    check_good(book, plan)
    stretches, barges = book
    told = []
    for number, hour in enumerate(plan):
        if hour is None:
            told.append(None)
        else:
            told.append(spare_of(stretches, barges[number], hour))
    return told

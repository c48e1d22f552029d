"""What the tows of a good plan do, and the rows that they have on the way."""

from towbarges.judging import check_good, hours_of, members
from towbarges.passing import arrival, depth_then


def coupled_at(barges, numbers, place):
    """Tell which of some barges begin at a place, in the order of their coupling."""
    pairs = sorted([(-barges[number][1], number) for number in numbers if barges[number][0] == place])
    return [number for _, number in pairs]


def passage(book, plan, hour):
    """Tell the deeds of a tow, and its row when it goes on from each place."""
    stretches, barges = book
    numbers = members(plan, hour)
    deeds = []
    held = []
    row = []
    for place in range(len(stretches) + 1):
        # in a good plan no barge that goes on stands behind one that is left
        while row and barges[row[-1]][1] == place:
            deeds.append(("leave", place, row[-1]))
            row.pop()
        for number in coupled_at(barges, numbers, place):
            deeds.append(("couple", place, number))
            row.append(number)
        held.append(tuple(row))
    return deeds, held


def stays(book, plan, hour):
    """Tell (time, depth, row) of a tow for each stretch."""
    stretches = book[0]
    _, held = passage(book, plan, hour)
    told = []
    for stretch in range(len(stretches)):
        time = arrival(stretches, stretch, hour)
        told.append((time, depth_then(stretches, stretch, time), held[stretch]))
    return told


def rows(book, plan):
    """Tell of a good plan which barges each tow couples and leaves."""
    check_good(book, plan)
    return [(hour, passage(book, plan, hour)[0]) for hour in hours_of(plan)]


def journal(book, plan):
    """Tell of a good plan when each tow begins each stretch, its depth and the row then."""
    check_good(book, plan)
    return [(hour, stays(book, plan, hour)) for hour in hours_of(plan)]

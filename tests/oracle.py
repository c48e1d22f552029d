"""What the document says of plans, written a second time in another way: hour by hour."""

import random


def walked(stretches, hour):
    """The time at each place, by walking down the river."""
    times = [hour]
    for hours, _, _ in stretches:
        times.append(times[-1] + hours)
    return times


def told_against(book, plan):
    """All that speaks against a plan, gathered first and sorted into the told order then."""
    stretches, barges = book
    found = []
    tows = {}
    for number, hour in enumerate(plan):
        if hour is not None:
            tows.setdefault(hour, []).append(number)
    for hour, numbers in tows.items():
        times = walked(stretches, hour)
        for number in numbers:
            begin, goal, draft, ready, due = barges[number]
            if times[begin] < ready:
                found.append(((0, number, 0, 0), ("early", number, times[begin])))
            if times[goal] > due:
                found.append(((0, number, 1, 0), ("late", number, times[goal])))
        for stretch, (_, room, depths) in enumerate(stretches):
            depth = (depths * 200)[times[stretch]]
            aboard = [number for number in numbers if stretch in range(*barges[number][:2])]
            if len(aboard) > room:
                found.append(((1, hour, stretch, 0), ("full", hour, stretch, len(aboard))))
            for number in aboard:
                if barges[number][2] > depth:
                    cause = ("shallow", number, stretch, times[stretch], depth)
                    found.append(((0, number, 2, stretch), cause))
        for one in numbers:
            for other in numbers:
                way, beside = set(range(*barges[one][:2])), set(range(*barges[other][:2]))
                # the ways overlap, and each of both reaches beyond the other
                if way & beside and way - beside and beside - way and min(way) < min(beside):
                    found.append(((2, one, other, 0), ("crossed", one, other)))
    return [cause for _, cause in sorted(found)]


def chance_books(many):
    """Books and plans of chance, the same ones in each run."""
    chance = random.Random(20)
    for _ in range(many):
        last = chance.randint(1, 5)
        stretches = tuple(
            (chance.randint(1, 3), chance.randint(1, 4), tuple(chance.randint(5, 20) for _ in range(chance.randint(1, 4))))
            for _ in range(last)
        )
        barges = []
        for _ in range(chance.randint(0, 7)):
            begin = chance.randint(0, last - 1)
            goal = chance.randint(begin + 1, last)
            barges.append((begin, goal, chance.randint(1, 12), chance.randint(0, 6), chance.randint(6, 25)))
        spread = chance.choice((1, 3, 12))
        plan = tuple(chance.choice((None, *range(spread), *range(spread))) for _ in barges)
        yield (stretches, tuple(barges)), plan

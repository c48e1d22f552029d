"""What the document says of plans, written a second time in another way: hour by hour."""

import itertools
import random


def walked(stretches, hour):
    """The time at each place, by walking down the river."""
    times = [hour]
    for hours, _, _ in stretches:
        times.append(times[-1] + hours)
    return times


def told_against(book, plan):
    """All that speaks against a plan, gathered first and sorted into the told order then."""
    stretches, barges = book
    found = []
    tows = {}
    for number, hour in enumerate(plan):
        if hour is not None:
            tows.setdefault(hour, []).append(number)
    for hour, numbers in tows.items():
        times = walked(stretches, hour)
        for number in numbers:
            begin, goal, draft, ready, due = barges[number]
            if times[begin] < ready:
                found.append(((0, number, 0, 0), ("early", number, times[begin])))
            if times[goal] > due:
                found.append(((0, number, 1, 0), ("late", number, times[goal])))
        for stretch, (_, room, depths) in enumerate(stretches):
            depth = (depths * 200)[times[stretch]]
            aboard = [number for number in numbers if stretch in range(*barges[number][:2])]
            if len(aboard) > room:
                found.append(((1, hour, stretch, 0), ("full", hour, stretch, len(aboard))))
            for number in aboard:
                if barges[number][2] > depth:
                    cause = ("shallow", number, stretch, times[stretch], depth)
                    found.append(((0, number, 2, stretch), cause))
        for one in numbers:
            for other in numbers:
                way, beside = set(range(*barges[one][:2])), set(range(*barges[other][:2]))
                # the ways overlap, and each of both reaches beyond the other
                if way & beside and way - beside and beside - way and min(way) < min(beside):
                    found.append(((2, one, other, 0), ("crossed", one, other)))
    return [cause for _, cause in sorted(found)]


def chance_stretch(chance, least):
    """A stretch of chance, nowhere less deep than the least."""
    depths = [chance.randint(least, 20) for _ in range(chance.randint(1, 4))]
    return chance.randint(1, 3), chance.randint(1, 4), tuple(depths)


def chance_books(many):
    """Books and plans of chance, the same ones in each run."""
    chance = random.Random(20)
    for _ in range(many):
        last = chance.randint(1, 5)
        stretches = tuple(chance_stretch(chance, 5) for _ in range(last))
        barges = []
        for _ in range(chance.randint(0, 7)):
            begin = chance.randint(0, last - 1)
            goal = chance.randint(begin + 1, last)
            barges.append((begin, goal, chance.randint(1, 12), chance.randint(0, 6), chance.randint(6, 25)))
        spread = chance.choice((1, 3, 12))
        plan = tuple(chance.choice((None, *range(spread), *range(spread))) for _ in barges)
        yield (stretches, tuple(barges)), plan


def worth_told(book, plan):
    """The worth of a plan, counted tow by tow."""
    stretches, barges = book
    tows = {}
    for (begin, _, _, ready, _), hour in zip(barges, plan):
        if hour is not None:
            tows.setdefault(hour, []).append(walked(stretches, hour)[begin] - ready)
    return len(tows), sum(sum(waits) for waits in tows.values())


def gone_through(book, start, now):
    """All good plans without open barges from a start on, as tuples ascend, by trying each one."""
    spans = [range(max(now, 0), 12) if hour is None else (hour,) for hour in start]
    return [plan for plan in itertools.product(*spans) if not told_against(book, plan)]


def given(plan, barge, hour):
    """The plan with an hour for a barge."""
    return tuple(hour if number == barge else other for number, other in enumerate(plan))


def wanted_rows(book, plan, now, worth, barge):
    """The hours that a table's case of a barge must have."""
    told = []
    for hour in range(12):
        after = given(plan, barge, hour)
        if hour >= now and not told_against(book, after) and worth_told(book, after) < worth:
            told.append(hour)
    return told


def is_shown(book, plan, now, worth, table):
    """Whether a table shows a worth, by the words of point 11, where a table has the form of one."""
    word, *rest = table
    if word == "done":
        return not rest and None not in plan and not worth_told(book, plan) < worth
    barge, rows = rest
    if barge not in range(len(plan)) or plan[barge] is not None:
        return False
    if [hour for hour, _ in rows] != wanted_rows(book, plan, now, worth, barge):
        return False
    return all(is_shown(book, given(plan, barge, hour), now, worth, below) for hour, below in rows)


def made_table(book, plan, now, worth, pick):
    """A table for a worth, with the barge that is picked of the open ones at each case."""
    left = [number for number, hour in enumerate(plan) if hour is None]
    if not left:
        return ("done",)
    barge = pick(left)
    hours = wanted_rows(book, plan, now, worth, barge)
    rows = [(hour, made_table(book, given(plan, barge, hour), now, worth, pick)) for hour in hours]
    return ("cases", barge, tuple(rows))


def chance_starts(many, spread, least=0, most=7):
    """Books, good starts of them and hours now, of chance, so that there are few plans to go through."""
    chance = random.Random(many)
    for _ in range(many):
        last = chance.randint(1, 4)
        rest = chance.randint(1, spread)
        now = 12 - rest
        stretches = tuple(chance_stretch(chance, 6) for _ in range(last))
        barges = []
        for _ in range(chance.randint(least, most)):
            begin = chance.randint(0, last - 1)
            goal = chance.randint(begin + 1, last)
            ready = chance.randint(0, now + 2 * begin + 1)
            barges.append((begin, goal, chance.randint(1, 8), ready, chance.randint(now + 3, now + 20)))
        book = (stretches, tuple(barges))
        start = (None,) * len(barges)
        for barge in range(len(barges)):
            after = given(start, barge, chance.randint(0, 11))
            if chance.random() < 0.4 and not told_against(book, after):
                start = after
        yield book, start, now

"""Books and plans that several tests use."""

# places 0..3; a tow of hour h is at h, h + 2, h + 5 and h + 6
RIVER = ((2, 2, (50, 90, 70)), (3, 3, (80,)), (1, 2, (60, 40)))

# wide enough that only the barges themselves speak against a plan
WIDE = ((1, 9, (99,)),) * 8


def plain(begin, goal):
    """A barge that nothing speaks against where the river is deep."""
    return (begin, goal, 1, 0, 199)


LONGEST = (
    ((9, 9, tuple(range(24))),) * 8,
    ((0, 8, 99, 99, 199), (7, 8, 1, 0, 0)) + ((0, 8, 1, 0, 199),) * 5,
)

GOOD_BOOKS = (
    (RIVER, ()),
    (RIVER, ((0, 3, 40, 0, 20), (1, 2, 80, 2, 9))),
    (((1, 1, (0,)),), ()),
    (((9, 9, (99,) * 24),), ((0, 1, 1, 99, 0),)),
    (((1, 9, (0,)),), ((0, 1, 99, 0, 199),) * 7),
    LONGEST,
)

NO_NUMBERS = (None, True, False, "1", b"1", (), (1,), [1], {})


def swapped(row, at, value):
    """A tuple with another value at a place."""
    return row[:at] + (value,) + row[at + 1:]


def bad_stretches():
    """Values that are no stretch of a river."""
    good = (2, 2, (50, 90))
    told = [None, True, 1, "abc", b"abc", [2, 2, (50, 90)], {}, (), (2, 2), (2, 2, (50,), 1)]
    for at in (0, 1):
        told += [swapped(good, at, value) for value in NO_NUMBERS + (0, -1, 10, 100)]
    told += [swapped(good, 2, value) for value in (None, True, 50, "50", b"50", [50], {}, ())]
    told.append(swapped(good, 2, (50,) * 25))
    for value in NO_NUMBERS + (-1, 100):
        told += [swapped(good, 2, (value,)), swapped(good, 2, (50, value)), swapped(good, 2, (value, 50))]
    return told


def bad_barges():
    """Values that are no barge on a river of three stretches."""
    good = (1, 2, 50, 5, 50)
    told = [None, True, 1, "abcde", b"abcde", [1, 2, 50, 5, 50], {}, (), good[:4], good + (1,)]
    for at in range(5):
        told += [swapped(good, at, value) for value in NO_NUMBERS]
    # up the river, nowhere, and beyond both its ends
    for begin, goal in ((2, 1), (1, 1), (0, 0), (3, 3), (2, 4), (3, 4), (-1, 1), (-2, -1), (4, 5)):
        told.append((begin, goal) + good[2:])
    told += [swapped(good, 2, value) for value in (0, -1, 100)]
    told += [swapped(good, 3, value) for value in (-1, 100)]
    told += [swapped(good, 4, value) for value in (-1, 200)]
    return told


def bad_books():
    """Values that are no book."""
    barge = (1, 2, 50, 5, 50)
    told = [None, True, False, 0, 1, "ab", b"ab", [RIVER, ()], {}, (), (RIVER,), (RIVER, (), ())]
    told += [(value, ()) for value in (None, True, 1, "a", b"a", list(RIVER), {}, ())]
    told.append((WIDE + ((1, 9, (99,)),), ()))
    told += [(RIVER, value) for value in (None, True, 0, "", "a", b"", [], [barge], {}, barge)]
    told.append((RIVER, (barge,) * 8))
    for stretch in bad_stretches():
        told += [((stretch,), ()), (RIVER[:2] + (stretch,), (barge,)), ((stretch,) + RIVER, ())]
    for barge_like in bad_barges():
        told += [(RIVER, (barge_like,)), (RIVER, (barge, barge_like)), (RIVER, (barge_like, barge))]
    return told


TWO = (RIVER, (plain(0, 1), plain(1, 3)))


def bad_plans():
    """Values that are no plan of TWO."""
    told = [None, True, 0, 11, "00", b"00", [0, 0], [None, None], {}, {0: 0, 1: 1}]
    told += [(), (0,), (None,), (0, 0, 0), (0, None, None)]
    for value in (True, False, "1", "-", b"1", (), (1,), [1], {}, -1, 12, 99):
        told += [(value, 0), (0, value), (None, value), (value, value)]
    return told

# books with plans against which one thing speaks: early, late, shallow, full, crossed
NOT_GOOD = (
    ((RIVER, ((0, 1, 1, 5, 99),)), (4,)),
    ((RIVER, ((0, 1, 1, 0, 4),)), (4,)),
    ((RIVER, ((1, 2, 81, 0, 99),)), (4,)),
    ((((1, 1, (10,)),), ((0, 1, 1, 0, 99),) * 2), (4, 4)),
    ((WIDE, (plain(0, 2), plain(1, 3))), (4, 4)),
)

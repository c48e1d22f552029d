"""What a book is and what a plan is: all else is refused."""

from towbarges.errors import BadBook, BadPlan

HOURS = 12


def is_number(value, least, most):
    """Tell whether a value is a whole number from least to most."""
    # True and False are integers to Python, but no numbers here
    if isinstance(value, bool) or not isinstance(value, int):
        return False
    return least <= value <= most


def is_row(value, least, most):
    """Tell whether a value is a tuple of least to most items."""
    return isinstance(value, tuple) and least <= len(value) <= most


def is_stretch(value):
    """Tell whether a value is a stretch (hours, room, depths)."""
    if not is_row(value, 3, 3):
        return False
    hours, room, depths = value
    if not is_number(hours, 1, 9) or not is_number(room, 1, 9):
        return False
    return is_row(depths, 1, 24) and all(is_number(depth, 0, 99) for depth in depths)


def is_ready(value):
    """Tell whether a value is a time at which a barge can be ready."""
    return is_number(value, 0, 99)


def is_barge(value, last):
    """Tell whether a value is a barge on a river with that last place."""
    if not is_row(value, 5, 5):
        return False
    begin, goal, draft, ready, due = value
    if not is_number(begin, 0, last) or not is_number(goal, 0, last) or begin >= goal:
        return False
    return is_number(draft, 1, 99) and is_ready(ready) and is_number(due, 0, 199)


def check_book(book):
    """Refuse with BadBook what is no book."""
    if not is_row(book, 2, 2):
        raise BadBook("a book is a tuple (stretches, barges)")
    stretches, barges = book
    if not is_row(stretches, 1, 8) or not all(is_stretch(stretch) for stretch in stretches):
        raise BadBook("stretches are a tuple of one to eight tuples (hours, room, depths)")
    last = len(stretches)
    if not is_row(barges, 0, 7) or not all(is_barge(barge, last) for barge in barges):
        raise BadBook("barges are a tuple of up to seven tuples (begin, goal, draft, ready, due)")


def check_plan(book, plan):
    """Refuse with BadBook what is no book, then with BadPlan what is no plan of it."""
    check_book(book)
    many = len(book[1])
    if not is_row(plan, many, many):
        raise BadPlan("a plan is a tuple with an hour or None for each barge")
    if not all(hour is None or is_number(hour, 0, HOURS - 1) for hour in plan):
        raise BadPlan("an hour of a plan is a number from 0 to 11 or None")

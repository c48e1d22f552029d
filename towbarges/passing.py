"""When a tow comes to a place, and how deep a stretch is then."""

from towbarges.checking import check_book


def arrival(stretches, place, hour):
    """Tell when the tow of an hour comes to a place."""
    return hour + sum(stretch[0] for at, stretch in enumerate(stretches) if at < place)


def depth_then(stretches, stretch, time):
    """Tell how deep a stretch is for a tow that begins it at a time."""
    depths = stretches[stretch][2]
    return depths[time % len(depths)]


def time_at(book, place, hour):
    """Tell when the tow of an hour comes to a place."""
    check_book(book)
    return arrival(book[0], place, hour)


def depth_at(book, stretch, time):
    """Tell how deep a stretch is for a tow that begins it at a time."""
    check_book(book)
    stretches = book[0]
    # the document names no error for a stretch that the book does not have
    if not 0 <= stretch < len(stretches):
        return 0
    return depth_then(stretches, stretch, time)

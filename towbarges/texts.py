"""Books and plans as texts."""

from towbarges.checking import check_plan
from towbarges.errors import BadText

FIGURES = "0123456789"


def row_of(name, values):
    """Tell the row with a name and numbers, or `-` for None."""
    return " ".join([name] + ["-" if value is None else str(value) for value in values])


def written(book, plan):
    """Tell the text of a book and a plan."""
    check_plan(book, plan)
    stretches, barges = book
    told = [row_of("stretch", (hours, room) + depths) for hours, room, depths in stretches]
    told.extend([row_of("barge", barge) for barge in barges])
    told.append(row_of("plan", plan))
    return "\n".join(told)


def number_of(word):
    """Tell the number that a word is."""
    # int and isdigit take words that are not written so: 007, 1_0, figures of other scripts
    plain = 1 <= len(word) <= 3 and all(sign in FIGURES for sign in word)
    if not plain or (word[0] == "0" and word != "0"):
        raise BadText("a number is written with one to three figures, in the shortest way")
    return int(word)


def stretch_of(words):
    """Tell the stretch that words are."""
    if len(words) < 3:
        raise BadText("a row of a stretch is: stretch HOURS ROOM DEPTH DEPTH ..")
    numbers = [number_of(word) for word in words]
    return (numbers[0], numbers[1], tuple(numbers[2:]))


def barge_of(words):
    """Tell the barge that words are."""
    if len(words) != 5:
        raise BadText("a row of a barge is: barge BEGIN GOAL DRAFT READY DUE")
    return tuple([number_of(word) for word in words])


def hour_of(word):
    """Tell the hour that a word is, or None."""
    return None if word == "-" else number_of(word)


def read(text):
    """Tell the book and the plan that a text is."""
    rows = [row.split(" ") for row in text.split("\n")]
    names = [row[0] for row in rows]
    many = names.count("stretch")
    if names != ["stretch"] * many + ["barge"] * names.count("barge") + ["plan"]:
        raise BadText("rows of stretches come first, then those of barges, then the plan's one")
    stretches = tuple([stretch_of(row[1:]) for row in rows[:many]])
    barges = tuple([barge_of(row[1:]) for row in rows[many:-1]])
    plan = tuple([hour_of(word) for word in rows[-1][1:]])
    book = (stretches, barges)
    check_plan(book, plan)
    return book, plan

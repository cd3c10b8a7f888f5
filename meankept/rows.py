"""Rows: what they are, and what they are one behind the other, undone, and many times."""

from meankept.errors import BadNumber
from meankept.kinds import check_deeds, is_letter_row, is_whole_from, taken_row
from meankept.letters import plain_letters, undone_letters

MOST_TIMES = 20


def is_row(deeds, value):
    """Return whether value is a row of so many deeds."""
    check_deeds(deeds)
    return is_letter_row(deeds, value)


def plain(deeds, row):
    """Return the plain row of row."""
    check_deeds(deeds)
    return taken_row(deeds, row)


def undone(deeds, row):
    """Return row undone."""
    check_deeds(deeds)
    return undone_letters(taken_row(deeds, row))


def beside(deeds, one, other):
    """Return the product of one and other."""
    check_deeds(deeds)
    first = taken_row(deeds, one)
    second = taken_row(deeds, other)
    return plain_letters(first + second)


def times_row(deeds, row, many):
    """Return many times the row."""
    check_deeds(deeds)
    letters = taken_row(deeds, row)
    if not is_whole_from(many, -MOST_TIMES, MOST_TIMES):
        raise BadNumber(f"many must be a whole from -{MOST_TIMES} to {MOST_TIMES}")
    if many < 0:
        return plain_letters(undone_letters(letters) * -many)
    return plain_letters(letters * many)


def sums(deeds, row):
    """Return for each deed how often it stands in row, less how often its undo does."""
    check_deeds(deeds)
    letters = taken_row(deeds, row)
    return tuple([letters.count(deed) - letters.count(-deed) for deed in range(1, deeds + 1)])

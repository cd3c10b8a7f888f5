"""What values are: wholes, deeds, letters, rows, places; and the errors for those that are not."""

from meankept.errors import BadDeeds, BadPlace, BadPlaces, BadRow, BadRows
from meankept.letters import plain_letters

MOST_DEEDS = 4
MOST_LETTERS = 200
MOST_ROWS = 6
MOST_PLACES_TOLD = 1000000


def is_whole(value):
    """Return whether value is a whole."""
    # True and False are of the kind int, too.
    return isinstance(value, int) and not isinstance(value, bool)


def is_whole_from(value, low, high):
    """Return whether value is a whole from low to high."""
    return is_whole(value) and low <= value <= high


def is_letter(deeds, value):
    """Return whether value is a letter of so many deeds."""
    return is_whole_from(value, -deeds, deeds) and value != 0


def are_letters(deeds, value):
    """Return whether value is a tuple of letters of so many deeds, which are checked already."""
    return isinstance(value, tuple) and all([is_letter(deeds, item) for item in value])


def is_letter_row(deeds, value):
    """Return whether value is a row of so many deeds, which are checked already."""
    return are_letters(deeds, value) and len(value) <= MOST_LETTERS


def check_deeds(deeds):
    """Raise BadDeeds unless deeds is a number of deeds."""
    if not is_whole_from(deeds, 1, MOST_DEEDS):
        raise BadDeeds(f"deeds must be a whole from 1 to {MOST_DEEDS}")


def taken_row(deeds, row):
    """Return the plain row for which a passed row counts; raise BadRow if it is none."""
    if not is_letter_row(deeds, row):
        raise BadRow(f"a row must be a tuple of at most {MOST_LETTERS} letters")
    return plain_letters(row)


def taken_rows(deeds, rows):
    """Return the list of the plain rows for which passed rows count; raise BadRows if they are none."""
    if not isinstance(rows, (list, tuple)) or len(rows) > MOST_ROWS:
        raise BadRows(f"rows must be a list of at most {MOST_ROWS} rows")
    if not all([is_letter_row(deeds, row) for row in rows]):
        raise BadRows(f"each of rows must be a tuple of at most {MOST_LETTERS} letters")
    return [plain_letters(row) for row in rows]


def check_place(places, place):
    """Raise BadPlace unless place is one of so many places."""
    if not is_whole_from(place, 0, places - 1):
        raise BadPlace(f"a place must be a whole from 0 to {places - 1}")


def check_places(places):
    """Raise BadPlaces unless places is a number of places that may be told."""
    if not is_whole_from(places, 1, MOST_PLACES_TOLD):
        raise BadPlaces(f"places must be a whole from 1 to {MOST_PLACES_TOLD}")

"""Means over all houses of a size: of the manners to lay a web, of the places that rows keep, and of squares."""

from meankept.errors import TooMany
from meankept.folding import web_of_plain
from meankept.kinds import check_deeds, check_places, taken_row, taken_rows
from meankept.sharing import form_of, mean_of_forms, mean_of_pair, picture_forms
from meankept.walks import steps_of
from meankept.webs import check_web

MOST_LETTERS_SQUARED = 5


def share(web, places):
    """Return the mean number of manners to lay web into a house of so many places."""
    check_web(web)
    check_places(places)
    return mean_of_forms({form_of(web[0], steps_of(web)): 1}, places)


def mean(deeds, rows, places):
    """Return the mean number of places that rows keep in the houses of so many places."""
    check_deeds(deeds)
    plain_rows = taken_rows(deeds, rows)
    check_places(places)
    return mean_of_forms(picture_forms(web_of_plain(deeds, plain_rows)), places)


def mean_square(deeds, row, places):
    """Return the mean of the square of the number of places that row keeps in the houses of so many places."""
    check_deeds(deeds)
    letters = taken_row(deeds, row)
    check_places(places)
    if len(letters) > MOST_LETTERS_SQUARED:
        raise TooMany(MOST_LETTERS_SQUARED)
    return mean_of_pair(deeds, letters, letters, places)

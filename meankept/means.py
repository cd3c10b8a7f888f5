"""Means over all houses of a size: of the manners to lay a web, of the places that rows keep, and of squares."""

from meankept.errors import TooMany
from meankept.folding import web_of_plain
from meankept.growing import kept_steps, ties_told
from meankept.kinds import check_deeds, check_places, taken_row, taken_rows
from meankept.sharing import counted, form_of, mean_of_forms, picture_forms
from meankept.webs import check_web

MOST_LETTERS_SQUARED = 5


def pair_forms(deeds, one, other):
    """Return the dict of the forms of all manners in which two plain rows each keep a place."""
    # So many places are never all needed.
    most = len(one) + len(other) + 2
    found = []
    for steps in kept_steps([[{}]], one, 0, most):
        for start in range(len(steps)):
            found.extend(kept_steps([steps], other, start, most))
        found.extend(kept_steps([steps + [{}]], other, len(steps), most))
    return counted([(len(steps), ties_told(deeds, steps)) for steps in found])


def share(web, places):
    """Return the mean number of manners to lay web into a house of so many places."""
    check_web(web)
    check_places(places)
    return mean_of_forms({form_of(web): 1}, places)


def mean(deeds, rows, places):
    """Return the mean number of places that rows keep in the houses of so many places."""
    check_deeds(deeds)
    plain_rows = taken_rows(deeds, rows)
    check_places(places)
    return mean_of_forms(picture_forms(web_of_plain(deeds, plain_rows)), places)


def mean_square(deeds, row, places):
    """Return the mean of the square of the number of places that row keeps in the houses of so many places."""
    check_deeds(deeds)
    letters = taken_row(deeds, row)
    check_places(places)
    if len(letters) > MOST_LETTERS_SQUARED:
        raise TooMany(MOST_LETTERS_SQUARED)
    return mean_of_forms(pair_forms(deeds, letters, letters), places)

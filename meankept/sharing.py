"""Shares: the mean number of manners in which places and ties lie in houses, by how many there are.

A form is a pair (places, ties): how many places there are, and a tuple of how many ties of each deed. It is
summed up as a dict from forms to how often they come.
"""

from math import perm

from meankept.numbers import number
from meankept.picturing import all_pictures


def form_of(web):
    """Return the form of a web."""
    deeds, places, ties = web
    told = [deed for _, deed, _ in ties]
    return (places, tuple([told.count(deed) for deed in range(1, deeds + 1)]))


def counted(items):
    """Return a dict from the items of a list to how often they stand in it."""
    found = {}
    for item in items:
        found[item] = found.get(item, 0) + 1
    return found


def picture_forms(web):
    """Return the dict of the forms of all pictures of a web."""
    return counted([form_of(picture) for picture in all_pictures(web)])


def mean_of_forms(forms, places):
    """Return the sum of the shares of forms over houses of so many places, a number."""
    # What has more places than the house does not lie in it; no deed has more ties than there are places.
    fitting = {form: many for form, many in forms.items() if form[0] <= places}
    if not fitting:
        return 0
    lots = [ties for _, ties in fitting]
    most = [max(bounds) for bounds in zip(*lots)]
    top = 0
    for (size, ties), many in fitting.items():
        share = many * perm(places, size)
        for tied, bound in zip(ties, most):
            share *= perm(places - tied, bound - tied)
        top += share
    bottom = 1
    for bound in most:
        bottom *= perm(places, bound)
    return number(top, bottom)

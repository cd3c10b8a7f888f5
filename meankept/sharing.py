"""Shares: the mean number of manners in which places and ties lie in houses, by how many there are.

A form is a pair (places, ties): how many places there are, and a tuple of how many ties of each deed. It is
summed up as a dict from forms to how often they come.
"""

from math import perm

from meankept.folding import web_of_plain
from meankept.joining import all_joined
from meankept.neighbours import rings_of_plain
from meankept.numbers import number
from meankept.picturing import steps_within
from meankept.shortest import rings_shortened
from meankept.walks import steps_of, ties_told


def form_of(deeds, steps):
    """Return the form of steps."""
    return (len(steps), ties_told(deeds, steps))


def counted_forms(deeds, lot):
    """Return the dict of the forms of a list of steps."""
    found = {}
    for steps in lot:
        form = form_of(deeds, steps)
        found[form] = found.get(form, 0) + 1
    return found


def picture_forms(web):
    """Return the dict of the forms of all pictures of a web."""
    return counted_forms(web[0], steps_within(web, [0] * web[1]))


def pair_forms(deeds, one, other):
    """Return the dict of the forms of all manners in which two plain rows each keep a place."""
    steps = steps_of(web_of_plain(deeds, [one]))
    more = len(steps)
    for leads in steps_of(web_of_plain(deeds, [other])):
        steps.append({letter: goal + more for letter, goal in leads.items()})
    return counted_forms(deeds, all_joined(steps, [0] * len(steps), None))


def mean_of_forms(forms, places):
    """Return the sum of the shares of forms over houses of so many places, a number."""
    # What has more places than the house does not lie in it; no deed has more ties than there are places.
    fitting = {form: many for form, many in forms.items() if form[0] <= places}
    lots = [ties for _, ties in fitting]
    most = [max(bounds) for bounds in zip(*lots)]
    top = 0
    for (size, ties), many in fitting.items():
        share = many * perm(places, size)
        for tied, bound in zip(ties, most):
            share *= perm(places - tied, bound - tied)
        top += share
    bottom = 1
    for bound in most:
        bottom *= perm(places, bound)
    return number(top, bottom)


def mean_of_pair(deeds, one, other, places):
    """Return the mean of the product of how many places two plain rows keep in houses of so many places."""
    # A renaming of both, and turning either of them, leaves it: with few letters there are few forms.
    _, rings = rings_shortened(deeds, rings_of_plain([one, other]))
    return mean_of_forms(pair_forms(deeds, rings[0], rings[1]), places)

"""The mean number of places that rows keep, as one fraction of polynomials."""

from meankept.folding import web_of_plain
from meankept.kinds import check_deeds, taken_rows
from meankept.polynomials import added, value_at, with_root, without_root
from meankept.sharing import picture_forms


def root_powers(form, limit):
    """Return for each root below limit how often it is one of the share of a form, below 0 if of its bottom."""
    places, ties = form
    return [int(root < places) - sum([root < tied for tied in ties]) for root in range(limit)]


def with_roots(polynomial, powers):
    """Return a polynomial times N - root, for each root as often as powers tell."""
    for root, many in enumerate(powers):
        for _ in range(many):
            polynomial = with_root(polynomial, root)
    return polynomial


def fraction_of_forms(forms):
    """Return the top and the bottom, without common roots, of the sum of the shares of forms."""
    limit = max([places for places, _ in forms])
    powers = {form: root_powers(form, limit) for form in forms}
    below = [max(0, -min([powers[form][root] for form in forms])) for root in range(limit)]
    top = []
    for form, many in forms.items():
        left = [power + least for power, least in zip(powers[form], below)]
        top = added(top, with_roots([many], left))
    for root in range(limit):
        # All the bottom's roots are among these; so nothing else can be common.
        while below[root] > 0 and value_at(top, root) == 0:
            top = without_root(top, root)
            below[root] -= 1
    return tuple(top), tuple(with_roots([1], below))


def mean_fraction(deeds, rows):
    """Return the polynomials of which the mean is the quotient, from the last value on, and this value."""
    check_deeds(deeds)
    web = web_of_plain(deeds, taken_rows(deeds, rows))
    top, bottom = fraction_of_forms(picture_forms(web))
    return (top, bottom, web[1])

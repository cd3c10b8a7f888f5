"""Own shares: means of places in whose webs a web is free; and means of products of what two rows keep."""

from meankept.errors import TooMany
from meankept.joining import free_lots
from meankept.kinds import check_deeds, check_places, taken_row
from meankept.picturing import graph_of
from meankept.sharing import counted_forms, mean_of_forms, mean_of_pair
from meankept.webs import check_web

MOST_LETTERS_OF_BOTH = 10


def own_share(web, places):
    """Return the mean number of places kept by all that web makes and in whose webs web is free."""
    check_web(web)
    check_places(places)
    graph = graph_of(web)
    forms = counted_forms(web[0], [graph[lots][0] for lots in free_lots(graph)])
    return mean_of_forms(forms, places)


def mean_product(deeds, one, other, places):
    """Return the mean of the product of how many places one keeps and how many other keeps."""
    check_deeds(deeds)
    first = taken_row(deeds, one)
    second = taken_row(deeds, other)
    check_places(places)
    if len(first) + len(second) > MOST_LETTERS_OF_BOTH:
        raise TooMany(MOST_LETTERS_OF_BOTH)
    return mean_of_pair(deeds, first, second, places)

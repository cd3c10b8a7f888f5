"""Full webs: those in which each letter leads from each place; and the houses that go with webs."""

from math import factorial

from meankept.errors import BadPlaces, NotFull, TooMany
from meankept.filling import filled_house
from meankept.houses import MOST_PLACES, all_houses, check_house
from meankept.kinds import check_deeds, check_place, is_whole_from, taken_row
from meankept.walks import all_ways, house_steps, numbered, steps_of, walked
from meankept.webs import check_web

MOST_PLACES_LISTED = 5
MOST_WEBS = 500


def has_all_ties(web):
    """Return whether each place of a web has all ends of ties."""
    deeds, places, ties = web
    return len(ties) == deeds * places


def many_full(deeds, places):
    """Return how many full webs of so many places there are."""
    counts = [0]
    orders = [1]
    for many in range(1, places + 1):
        power = 1
        for _ in range(deeds - 1):
            power *= factorial(many)
        orders.append(power)
        counts.append(many * power - sum([orders[many - k] * counts[k] for k in range(1, many)]))
    return counts[places]


def is_full(web):
    """Return whether web is full."""
    check_web(web)
    return has_all_ties(web)


def filled(web):
    """Return a house on the places of web that has all its ties."""
    check_web(web)
    deeds, places, _ = web
    if places > MOST_PLACES:
        raise TooMany(MOST_PLACES)
    return filled_house(deeds, steps_of(web))


def house_web(deeds, house, place):
    """Return the web that makes all rows by which place is kept in house."""
    check_deeds(deeds)
    check_house(deeds, house)
    check_place(len(house[0]), place)
    return numbered(deeds, house_steps(house), place)


def rest(web, row):
    """Return the way of the place of a full web to which row leads from the first place."""
    check_web(web)
    if not has_all_ties(web):
        raise NotFull("each place of the web must have all ends of ties")
    place = walked(steps_of(web), taken_row(web[0], row), 0)
    return all_ways(web)[place]


def full_webs(deeds, places):
    """Return the ascending list of all full webs with so many places."""
    check_deeds(deeds)
    if not is_whole_from(places, 1, MOST_PLACES_LISTED):
        raise BadPlaces(f"places must be a whole from 1 to {MOST_PLACES_LISTED}")
    if many_full(deeds, places) > MOST_WEBS:
        raise TooMany(MOST_WEBS)
    # A full web is a house itself; so each one is seen from the place 0 of some house in which all places
    # can be reached from there.
    webs = [numbered(deeds, house_steps(house), 0) for house in all_houses(deeds, places)]
    return sorted(set([web for web in webs if web[1] == places]))

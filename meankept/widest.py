"""Steps of webs over others: how many there are, their rows, and the web of greatest steps over a web."""

from meankept.common import check_pairs, piece_web
from meankept.errors import TooMany
from meankept.kinds import taken_row
from meankept.letters import plain_letters, undone_letters
from meankept.pictures import check_over
from meankept.picturing import laid_places, web_of_ties
from meankept.turned import inner_steps, turned_web
from meankept.walks import all_ways, steps_of
from meankept.webs import check_web

MOST_STEPS = 500


def step_places(outer, inner, given):
    """Return the places of inner that are given the first inner place of outer, None if there are no steps.

    There are steps just if inner has, at each place that is given an inner one, all ends that lead on there.
    """
    goal_steps, goal = inner_steps(outer)
    steps = steps_of(inner)
    for place, mate in enumerate(given):
        if not all([letter in steps[place] for letter in goal_steps[mate]]):
            return None
    found = [place for place, mate in enumerate(given) if mate == goal]
    # If there are none, inner does not even come to the inner places.
    return found if found else None


def alike_places(steps):
    """Return for each place of steps the least place from which the same rows are read."""
    lots = [0] * len(steps)
    many = 0
    while many < max(lots) + 1:
        many = max(lots) + 1
        numbers = {}
        found = []
        for place, leads in enumerate(steps):
            told = tuple(sorted([(letter, lots[goal]) for letter, goal in leads.items()]))
            found.append(numbers.setdefault((lots[place], told), len(numbers)))
        lots = found
    least = {}
    return [least.setdefault(lot, place) for place, lot in enumerate(lots)]


def widest_web(web):
    """Return the web of greatest steps over a web among all that are over it with steps."""
    deeds, places, ties = web
    steps, _ = inner_steps(web)
    # Only inner places become one; those that have no steps here are left as they are.
    now = [place if steps[place] == {} else mate for place, mate in enumerate(alike_places(steps))]
    return web_of_ties(deeds, places, [(now[start], deed, now[end]) for start, deed, end in ties])


def has_steps(outer, inner):
    """Return whether outer, which is over inner, has steps over it."""
    return step_places(outer, inner, laid_places(inner, outer)) is not None


def steps_over(outer, inner):
    """Return the number of steps of outer over inner, None if there is no such number."""
    found = step_places(outer, inner, check_over(inner, outer))
    return None if found is None else len(found)


def step_rows(outer, inner):
    """Return as few rows as can be, () first, that behind what inner makes give all that outer makes; or None."""
    found = step_places(outer, inner, check_over(inner, outer))
    if found is None:
        return None
    if len(found) > MOST_STEPS:
        raise TooMany(MOST_STEPS)
    ways = all_ways(inner)
    # The first of the places is met by the way that leads to the inner places; it gives ().
    back = undone_letters(ways[found[0]])
    return [plain_letters(ways[place] + back) for place in found]


def widest(web):
    """Return the web of greatest steps over web among all that are over it with steps."""
    check_web(web)
    return widest_web(web)


def near_turned(web, row):
    """Return whether web, and web turned by row, both have steps over what both make."""
    check_web(web)
    turned = turned_web(web, taken_row(web[0], row))
    check_pairs(web, turned)
    both = piece_web(web, turned, (0, 0))
    return has_steps(web, both) and has_steps(turned, both)

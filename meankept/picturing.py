"""Work on webs that are checked already: laying them into one another, joining their places, their pictures."""

from meankept.folding import folded_steps
from meankept.joining import all_joined, joining_graph
from meankept.walks import add_step, meetings, numbered, steps_of

MOST_PICTURES = 2000


def laid_places(inner, outer):
    """Return the places of outer that the places of inner are given, None if inner cannot be laid into outer."""
    deeds, _, ties = inner
    steps = steps_of(outer)
    given = [0]
    for place, letter in meetings(deeds, steps_of(inner))[1:]:
        leads = steps[given[place]]
        if letter not in leads:
            return None
        given.append(leads[letter])
    if all([steps[given[place]].get(deed) == given[goal] for place, deed, goal in ties]):
        return tuple(given)
    return None


def part_given(inner, outer, given):
    """Return the web of the places and ties of outer that those of inner are given."""
    deeds, places, _ = outer
    steps = [{} for place in range(places)]
    for place, deed, goal in inner[2]:
        add_step(steps, given[place], deed, given[goal])
    return numbered(deeds, steps, 0)


def web_of_ties(deeds, places, ties):
    """Return the web of ties of which like ones become one, if no place of them has one end of a tie."""
    # Behind this a place has no fewer ends than before; so none is to be taken off.
    steps, first = folded_steps(places, ties)
    return numbered(deeds, steps, first)


def joined_web(web, place, mate):
    """Return the web that comes of joining two places of a web."""
    deeds, places, ties = web
    now = {at: at for at in range(places)}
    now[max(place, mate)] = min(place, mate)
    return web_of_ties(deeds, places, [(now[start], deed, now[end]) for start, deed, end in ties])


def joint_web(one, other):
    """Return the web that makes all products of rows each of which one or other makes."""
    deeds, places, ties = one
    more = other[1] - 1
    # The places of other but the first one come behind those of one.
    now = [0] + list(range(places, places + more))
    ties = list(ties) + [(now[start], deed, now[end]) for start, deed, end in other[2]]
    return web_of_ties(deeds, places + more, ties)


def steps_within(web, given):
    """Return the list of the steps of the pictures of web that join only places that are given one place."""
    return all_joined(steps_of(web), given, MOST_PICTURES)


def pictures_within(web, given):
    """Return the ascending list of the pictures of web that join only places that are given one place."""
    return sorted([numbered(web[0], steps, 0) for steps in steps_within(web, given)])


def all_pictures(web):
    """Return the ascending list of all pictures of web."""
    return pictures_within(web, [0] * web[1])


def graph_within(web, given):
    """Return the graph of the joinings of places of web that are given one place."""
    return joining_graph(steps_of(web), given, MOST_PICTURES)


def graph_of(web):
    """Return the graph of all joinings of places of web."""
    return graph_within(web, [0] * web[1])


def lots_of(given):
    """Return the lots of the joinings of all places that are given one place."""
    numbers = {}
    for place in given:
        numbers.setdefault(place, len(numbers))
    return tuple([numbers[place] for place in given])

"""Work on webs that are checked already: laying them into one another, joining their places, their pictures."""

from meankept.errors import TooMany
from meankept.folding import folded_steps
from meankept.walks import add_step, meetings, numbered, steps_of

MOST_PICTURES = 2000


def laid_places(inner, outer):
    """Return the places of outer that the places of inner are given, None if inner cannot be laid into outer."""
    deeds, _, ties = inner
    steps = steps_of(outer)
    given = [0]
    for place, letter in meetings(deeds, steps_of(inner))[1:]:
        leads = steps[given[place]]
        if letter not in leads:
            return None
        given.append(leads[letter])
    if all([steps[given[place]].get(deed) == given[goal] for place, deed, goal in ties]):
        return tuple(given)
    return None


def part_given(inner, outer, given):
    """Return the web of the places and ties of outer that those of inner are given."""
    deeds, places, _ = outer
    steps = [{} for place in range(places)]
    for place, deed, goal in inner[2]:
        add_step(steps, given[place], deed, given[goal])
    return numbered(deeds, steps, 0)


def web_of_ties(deeds, places, ties):
    """Return the web of ties of which like ones become one, if no place of them has one end of a tie."""
    # Behind this a place has no fewer ends than before; so none is to be taken off.
    steps, first = folded_steps(places, ties)
    return numbered(deeds, steps, first)


def joined_web(web, place, mate):
    """Return the web that comes of joining two places of a web."""
    deeds, places, ties = web
    now = {at: at for at in range(places)}
    now[max(place, mate)] = min(place, mate)
    return web_of_ties(deeds, places, [(now[start], deed, now[end]) for start, deed, end in ties])


def joint_web(one, other):
    """Return the web that makes all products of rows each of which one or other makes."""
    deeds, places, ties = one
    more = other[1] - 1
    # The places of other but the first one come behind those of one.
    now = [0] + list(range(places, places + more))
    ties = list(ties) + [(now[start], deed, now[end]) for start, deed, end in other[2]]
    return web_of_ties(deeds, places + more, ties)


def meet_pairs(steps, pair, met):
    """Put into the dict met all pairs of places to which the places of a pair lead by the same letters."""
    met[pair] = True
    waiting = [pair]
    while waiting:
        place, mate = waiting.pop()
        for letter, goal in steps[place].items():
            if letter in steps[mate]:
                other = steps[mate][letter]
                found = (min(goal, other), max(goal, other))
                if found not in met:
                    met[found] = True
                    waiting.append(found)


def add_pictures(came, web, given):
    """Add to the dict came the new webs that come of web by joining two places that are given one place.

    A new web has the pair (web, pair of places) there.
    """
    steps = steps_of(web)
    met = {}
    for mate in range(web[1]):
        for place in range(mate):
            # Joining a pair joins all pairs to which it leads; so one of them is enough.
            if given[place] == given[mate] and (place, mate) not in met:
                meet_pairs(steps, (place, mate), met)
                picture = joined_web(web, place, mate)
                if picture not in came:
                    came[picture] = (web, (place, mate))
                if len(came) > MOST_PICTURES:
                    raise TooMany(MOST_PICTURES)


def pictures_within(web, given):
    """Return a dict from the pictures of web that join only places that are given one place to how they came.

    This is None for the web itself, otherwise the pair of a picture that comes by one joining less, and of
    its two places that are joined. The pictures stand in the order of how many joinings they need.
    """
    came = {web: None}
    waiting = [(web, given)]
    at = 0
    while at < len(waiting):
        elder, its = waiting[at]
        many = len(came)
        add_pictures(came, elder, its)
        for picture in list(came)[many:]:
            places = laid_places(elder, picture)
            mine = [0] * picture[1]
            for place, other in zip(places, its):
                mine[place] = other
            waiting.append((picture, mine))
        at += 1
    return came


def all_pictures(web):
    """Return a dict from all pictures of web to how they came, as within it."""
    return pictures_within(web, [0] * web[1])

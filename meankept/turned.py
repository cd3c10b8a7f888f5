"""Webs turned by rows: by which rows one becomes another one, and which rows leave it."""

from meankept.kinds import taken_row
from meankept.letters import plain_letters, undone_letters
from meankept.picturing import web_of_ties
from meankept.walks import all_ways, numbered, rank_of, steps_of, take_off_ends, walked_on, whole_web
from meankept.webs import check_two_webs, check_web


def turned_web(web, letters):
    """Return the web of all rows that a web makes, turned by a plain row."""
    steps = steps_of(web)
    first = walked_on(steps, undone_letters(letters), 0)
    take_off_ends(steps, first)
    return numbered(web[0], steps, first)


def inner_steps(web):
    """Return the steps of a web with inner places alone, and the inner place that is met first.

    The other places have no steps.
    """
    steps = steps_of(web)
    first = 0
    while len(steps[first]) == 1:
        place = first
        for letter, goal in list(steps[place].items()):
            first = goal
            del steps[goal][-letter]
        steps[place] = {}
    return steps, first


def many_inner(steps):
    """Return how many places have steps; 0 for the inner place of a web without ties."""
    return len(steps) - steps.count({})


def looks_alike(one, place, other, mate):
    """Return whether the same letters lead from place and from mate, and so on from where they lead."""
    given = {place: mate}
    waiting = [place]
    while waiting:
        at = waiting.pop()
        leads = other[given[at]]
        if len(one[at]) != len(leads):
            return False
        for letter, goal in one[at].items():
            if letter not in leads:
                return False
            if goal not in given:
                given[goal] = leads[letter]
                waiting.append(goal)
            elif given[goal] != leads[letter]:
                return False
    return True


def turners_web(web):
    """Return the web that makes just the rows by which a web, turned, is itself."""
    deeds, places, ties = web
    if rank_of(web) == 0:
        return whole_web(deeds)
    steps, first = inner_steps(web)
    now = [first if looks_alike(steps, place, steps, first) else place for place in range(places)]
    return web_of_ties(deeds, places, [(now[start], deed, now[end]) for start, deed, end in ties])


def web_turned(web, row):
    """Return the web of all rows that web makes, turned by row."""
    check_web(web)
    return turned_web(web, taken_row(web[0], row))


def turning_row(one, other):
    """Return a row by which one, turned, is other, None if there is none."""
    check_two_webs(one, other)
    steps, _ = inner_steps(one)
    goal_steps, goal = inner_steps(other)
    # What leads on alike everywhere goes round a web with fewer inner places more than once.
    if many_inner(steps) != many_inner(goal_steps):
        return None
    for place, way in enumerate(all_ways(one)):
        if looks_alike(steps, place, goal_steps, goal):
            return plain_letters(all_ways(other)[goal] + undone_letters(way))
    return None


def turners(web):
    """Return the web that makes just the rows by which web, turned, is web."""
    check_web(web)
    return turners_web(web)


def stays_turned(web):
    """Return whether web, turned by any row, is web."""
    check_web(web)
    return turners_web(web) == whole_web(web[0])

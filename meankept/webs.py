"""Webs: what rows make together, how it is read, and how what is made is spelled."""

from meankept.errors import BadSpelling, BadWeb, NotMade, UnlikeWebs
from meankept.folding import web_of_plain
from meankept.kinds import MOST_DEEDS, check_deeds, check_place, is_whole, is_whole_from, taken_row, taken_rows
from meankept.letters import told_letters
from meankept.rings import ring_and_way
from meankept.walks import all_ways, free_rows, rank_of, spelling_of, steps_of, tried_letters, walked

MOST_NUMBERS = 2000


def is_tie(deeds, places, value):
    """Return whether value is a triple of a place, a deed and a place."""
    if not isinstance(value, tuple) or len(value) != 3:
        return False
    place, deed, goal = value
    return is_whole_from(deed, 1, deeds) and all([is_whole_from(end, 0, places - 1) for end in (place, goal)])


def has_web_form(value):
    """Return whether value is a tuple of deeds, places and ascending unlike ties of these."""
    if not isinstance(value, tuple) or len(value) != 3:
        return False
    deeds, places, ties = value
    if not is_whole_from(deeds, 1, MOST_DEEDS) or not is_whole(places) or not isinstance(ties, tuple):
        return False
    # More places than this cannot be reached; and this many there are at least.
    if not 1 <= places <= len(ties) + 1 or not all([is_tie(deeds, places, tie) for tie in ties]):
        return False
    return all([one < other for one, other in zip(ties, ties[1:])])


def is_folded(web):
    """Return whether no two ties of one deed lead from one place, or to one place."""
    ties = web[2]
    starts = [(place, deed) for place, deed, goal in ties]
    ends = [(goal, deed) for place, deed, goal in ties]
    return len(set(starts)) == len(ties) and len(set(ends)) == len(ties)


def is_numbered(deeds, steps):
    """Return whether each place can be reached, and is met for the first time as the next number."""
    met = 1
    for place, leads in enumerate(steps):
        if place == met:
            return False
        for letter in tried_letters(deeds):
            goal = leads.get(letter, 0)
            if goal > met:
                return False
            if goal == met:
                met += 1
    return True


def is_web(value):
    """Return whether value is a web."""
    if not has_web_form(value) or not is_folded(value):
        return False
    steps = steps_of(value)
    return is_numbered(value[0], steps) and all([len(leads) >= 2 for leads in steps[1:]])


def check_web(web):
    """Raise BadWeb unless web is one."""
    if not is_web(web):
        raise BadWeb("a web must be a tuple (deeds, places, ties), folded and numbered")


def check_two_webs(one, other):
    """Raise BadWeb unless one and other are webs, UnlikeWebs unless they are of equally many deeds."""
    check_web(one)
    check_web(other)
    if one[0] != other[0]:
        raise UnlikeWebs("the webs must be of equally many deeds")


def is_spelling(many, value):
    """Return whether value is a spelling for so many rows, of not too many numbers."""
    if not isinstance(value, tuple) or len(value) > MOST_NUMBERS:
        return False
    return all([is_whole_from(number, -many, many) and number != 0 for number in value])


def web_of(deeds, rows):
    """Return the web of rows."""
    check_deeds(deeds)
    return web_of_plain(deeds, taken_rows(deeds, rows))


def read(web, row, place):
    """Return the place to which row is read from place, None if it cannot be read."""
    check_web(web)
    deeds, places, _ = web
    letters = taken_row(deeds, row)
    check_place(places, place)
    return walked(steps_of(web), letters, place)


def makes(web, row):
    """Return whether web makes row."""
    check_web(web)
    return walked(steps_of(web), taken_row(web[0], row), 0) == 0


def rank(web):
    """Return the rank of web."""
    check_web(web)
    return rank_of(web)


def ways(web):
    """Return the list of the ways of all places of web, in order."""
    check_web(web)
    return all_ways(web)


def free_list(web):
    """Return the list of the rows of the ties of web that are no last step of a way."""
    check_web(web)
    return free_rows(web)


def spelled(web, row):
    """Return the plain spelling for the free list of web that tells row."""
    check_web(web)
    spelling = spelling_of(web, taken_row(web[0], row))
    if spelling is None:
        raise NotMade("the web does not make the row")
    return spelling


def told_row(web, spelling):
    """Return the row that spelling, for the free list of web, tells."""
    check_web(web)
    rows = free_rows(web)
    if not is_spelling(len(rows), spelling):
        raise BadSpelling(f"a spelling must be a tuple of at most {MOST_NUMBERS} numbers of rows")
    return told_letters(rows, spelling)


def is_over(one, other):
    """Return whether one makes all that other makes."""
    check_two_webs(one, other)
    steps = steps_of(one)
    return all([walked(steps, row, 0) == 0 for row in free_rows(other)])


def made_power(web, row):
    """Return the least whole from 1 on such that web makes the row so many times, None if there is none."""
    check_web(web)
    ring, way = ring_and_way(taken_row(web[0], row))
    steps = steps_of(web)
    start = walked(steps, way, 0)
    if start is None:
        return None
    many = 1
    place = walked(steps, ring, start)
    # Only one place is led to each place; so none comes again before start does.
    while place is not None and place != start:
        place = walked(steps, ring, place)
        many += 1
    return many if place == start else None

"""What lies between two webs of which one is over the other: pictures within, joinings, and what is free."""

from meankept.errors import NotFree
from meankept.joining import all_came
from meankept.letters import plain_letters, undone_letters
from meankept.pictures import check_over
from meankept.picturing import graph_of, graph_within, laid_places, lots_of, part_given, pictures_within
from meankept.walks import all_ways, numbered, rank_of, steps_of, tried_letters
from meankept.webs import check_web


def pairs_to(graph, goal):
    """Return as few pairs of places as can be, by which goal, some lots of a graph, comes of the first lots."""
    came = all_came(graph)
    pairs = []
    while came[goal] is not None:
        goal, pair = came[goal]
        pairs.append(pair)
    return list(reversed(pairs))


def joining_pairs(inner, given):
    """Return as few pairs of places of inner as can be, by which the part that its places are given comes of it."""
    return pairs_to(graph_within(inner, given), lots_of(given))


def is_free_by(pairs, inner, middle):
    """Return whether inner is free in its part, a web that comes of it by pairs, as few as can be."""
    return len(pairs) == rank_of(middle) - rank_of(inner)


def rows_around(middle, outer):
    """Return plain rows that behind a free list of middle, a part of outer, make a free list of outer."""
    given = laid_places(middle, outer)
    found = {place: way for place, way in zip(given, all_ways(middle))}
    met = {}
    for place, deed, goal in middle[2]:
        met[(given[place], deed)] = True
        met[(given[goal], -deed)] = True
    steps = steps_of(outer)
    waiting = list(given)
    rows = []
    at = 0
    while at < len(waiting):
        place = waiting[at]
        for letter in tried_letters(outer[0]):
            if letter not in steps[place] or (place, letter) in met:
                continue
            goal = steps[place][letter]
            met[(goal, -letter)] = True
            way = found[place] + (letter,)
            # A tie to a new place only lengthens the ways; any other one closes a row.
            if goal not in found:
                found[goal] = way
                waiting.append(goal)
            else:
                rows.append(plain_letters(way + undone_letters(found[goal])))
        at += 1
    return rows


def within(inner, outer):
    """Return the ascending list of the pictures of inner over which outer is."""
    return pictures_within(inner, check_over(inner, outer))


def joinings(inner, outer):
    """Return as few pairs of places of inner as can be, by which its part of outer comes of it."""
    return joining_pairs(inner, check_over(inner, outer))


def fewest(web):
    """Return the dict from the pictures of web to the least number of joinings by which they come of it."""
    check_web(web)
    graph = graph_of(web)
    many = {}
    for lots, came in all_came(graph).items():
        many[lots] = 0 if came is None else many[came[0]] + 1
    found = {numbered(web[0], steps, 0): many[lots] for lots, (steps, _) in graph.items()}
    return {picture: found[picture] for picture in sorted(found)}


def free_in(inner, outer):
    """Return whether inner is free in outer."""
    given = check_over(inner, outer)
    return is_free_by(joining_pairs(inner, given), inner, part_given(inner, outer, given))


def lengthened(inner, outer):
    """Return plain rows that behind the free list of inner make a free list of outer."""
    given = check_over(inner, outer)
    pairs = joining_pairs(inner, given)
    middle = part_given(inner, outer, given)
    if not is_free_by(pairs, inner, middle):
        raise NotFree("inner must be free in outer")
    ways = all_ways(inner)
    # What leads to one place and back from the other one joins both.
    rows = [plain_letters(ways[place] + undone_letters(ways[mate])) for place, mate in pairs]
    return rows + rows_around(middle, outer)

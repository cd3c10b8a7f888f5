"""Webs bound in others: the hull of a web, all webs in which it is bound, and what is told in other letters."""

from meankept.errors import BadRank
from meankept.folding import web_of_plain
from meankept.joining import raising
from meankept.kinds import MOST_DEEDS
from meankept.letters import told_letters
from meankept.pictures import check_over
from meankept.picturing import graph_of, graph_within, lots_of
from meankept.walks import free_rows, numbered, rank_of, spelling_of
from meankept.webs import check_web


def hull_lots(graph, goal):
    """Return the lots of the hull of the first lots of a graph in goal, some lots of it.

    What comes by one joining that raises the rank has what it comes of free in it; and where no such joining
    leads to, there the first lots are bound.
    """
    came = {}
    for lots, others in raising(graph).items():
        for other in others:
            came[other] = lots
    while goal in came:
        goal = came[goal]
    return goal


def hull_web(inner, given):
    """Return the hull of inner in a web over it, in which the places of inner are given places."""
    graph = graph_within(inner, given)
    steps, _ = graph[hull_lots(graph, lots_of(given))]
    return numbered(inner[0], steps, 0)


def check_rank(rank, least, most):
    """Raise BadRank unless the rank of a web is a whole from least to most."""
    if not least <= rank <= most:
        raise BadRank(f"the rank of outer must be from {least} to {most}")


def is_bound(inner, outer):
    """Return whether no web but outer itself is over inner and free in outer."""
    return hull_web(inner, check_over(inner, outer)) == outer


def hull(inner, outer):
    """Return the web over inner that is free in outer and in which inner is bound."""
    return hull_web(inner, check_over(inner, outer))


def bound_webs(web):
    """Return the ascending list of all webs in which web is bound."""
    check_web(web)
    graph = graph_of(web)
    raised = {}
    for others in raising(graph).values():
        for lots in others:
            raised[lots] = True
    return sorted([numbered(web[0], steps, 0) for lots, (steps, _) in graph.items() if lots not in raised])


def inside(inner, outer):
    """Return the web that makes the spellings, for the free list of outer, of all rows that inner makes."""
    check_over(inner, outer)
    deeds = rank_of(outer)
    check_rank(deeds, 1, MOST_DEEDS)
    return web_of_plain(deeds, [spelling_of(outer, row) for row in free_rows(inner)])


def outside(web, outer):
    """Return the web that makes all rows told by the spellings, for the free list of outer, that web makes."""
    check_web(web)
    check_web(outer)
    check_rank(rank_of(outer), web[0], web[0])
    rows = free_rows(outer)
    return web_of_plain(outer[0], [told_letters(rows, spelling) for spelling in free_rows(web)])

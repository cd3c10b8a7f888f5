"""Depths: the least ranks of webs that make a row without having it as a letter, and what means tell of them."""

from meankept.folding import web_of_plain
from meankept.fractions import fraction_of_forms
from meankept.joining import free_lots
from meankept.kinds import check_deeds, taken_row, taken_rows
from meankept.numbers import number
from meankept.picturing import graph_of
from meankept.polynomials import added
from meankept.sharing import mean_of_forms, picture_forms
from meankept.walks import numbered, rank_of, rank_of_steps


def row_forms(deeds, row):
    """Return the dict of the forms of all pictures of a row; raise an error for a wrong parameter."""
    check_deeds(deeds)
    return picture_forms(web_of_plain(deeds, [taken_row(deeds, row)]))


def excess_of_forms(forms):
    """Return the top and the bottom of the sum of the shares of forms less 1, from some number of places on."""
    top, bottom = fraction_of_forms(forms)
    return added(list(top), [-factor for factor in bottom]), bottom


def divided_often(places, many):
    """Return the number 1, divided so many times by places."""
    bottom = 1
    for _ in range(many):
        bottom *= places
    return number(1, bottom)


def depth(deeds, row):
    """Return the least rank of a web that makes row without having it as a letter, and all such webs of this rank.

    None if there is no such web.
    """
    check_deeds(deeds)
    letters = taken_row(deeds, row)
    graph = graph_of(web_of_plain(deeds, [letters]))
    # No web has () as a letter, though its web is free in each one.
    free = {} if letters == () else free_lots(graph)
    lot = [steps for lots, (steps, _) in graph.items() if lots not in free]
    if lot == []:
        return None
    least = min([rank_of_steps(steps) for steps in lot])
    return (least, sorted([numbered(deeds, steps, 0) for steps in lot if rank_of_steps(steps) == least]))


def leading(deeds, row):
    """Return the power of the number of places and the factor by which the mean of row nears 1, None if it is 1."""
    top, bottom = excess_of_forms(row_forms(deeds, row))
    if top == []:
        return None
    return (len(bottom) - len(top), top[-1])


def least_unlike(deeds, row):
    """Return the least number of places, from 2 on, for which the mean of row is not 1, and this mean."""
    forms = row_forms(deeds, row)
    top, _ = excess_of_forms(forms)
    # The mean of a row is 1 from some number of places on exactly if the row is a letter; then it always is.
    if top == []:
        return None
    places = 2
    while mean_of_forms(forms, places) == 1:
        places += 1
    return (places, mean_of_forms(forms, places))


def keeps_alone(deeds, rows):
    """Return whether the mean of rows is N ** (1 - r) for each number N of places, r the rank of their web."""
    check_deeds(deeds)
    web = web_of_plain(deeds, taken_rows(deeds, rows))
    forms = picture_forms(web)
    many = rank_of(web) - 1
    wanted = ((0, 1), (1,)) if many < 0 else ((1,), (0,) * many + (1,))
    if fraction_of_forms(forms) != wanted:
        return False
    # A web of rank 0 has one place; so below there is a number of places only for a rank of 1 or more.
    return all([mean_of_forms(forms, places) == divided_often(places, many) for places in range(1, web[1])])

"""Levels: all shortest lists of rings that renamings make of rows, and whether lists are alike."""

from meankept.errors import BadRows, TooMany
from meankept.images import (chain_images, images_behind, move_images, renamed_rings, same_images,
                             undone_move)
from meankept.shortest import move_growths, rings_shortened, taken_few_rings

MOST_LISTS = 500


def simple_exchanges(deeds):
    """Return a list of exchanges such that each other one does what some of these do, one behind the other."""
    found = []
    for at in range(deeds):
        images = list(same_images(deeds))
        images[at] = (-at - 1,)
        found.append(tuple(images))
        if at > 0:
            images[at] = (at,)
            images[at - 1] = (at + 1,)
            found.append(tuple(images))
    return found


def level_steps(deeds, rings):
    """Return the list of renamings by which the level is gone through, from one of its lists of rings on."""
    found = [move_images(deeds, move) for growth, move in move_growths(deeds, rings) if growth == 0]
    return found + simple_exchanges(deeds)


def level_from(deeds, first):
    """Return a dict from the lists of rings of the level of shortest rings to the steps to these.

    A step is a pair of the list of rings from which it leads and a renaming; the first list has None.
    """
    came = {first: None}
    waiting = [first]
    at = 0
    while at < len(waiting):
        for images in level_steps(deeds, waiting[at]):
            rings = renamed_rings(images, waiting[at])
            if rings not in came:
                came[rings] = (waiting[at], images)
                waiting.append(rings)
                if len(waiting) > MOST_LISTS:
                    raise TooMany(MOST_LISTS)
        at += 1
    return came


def sorted_level(deeds, rings):
    """Return the ascending list of the level of rings."""
    _, first = rings_shortened(deeds, rings)
    return sorted(level_from(deeds, first))


def images_to(deeds, came, rings):
    """Return the renaming that the steps of a level give that lead from its first list to rings."""
    images = same_images(deeds)
    step = came[rings]
    while step is not None:
        rings, last = step
        images = images_behind(last, images)
        step = came[rings]
    return images


def level(deeds, rows):
    """Return the ascending list of all shortest lists of rings that renamings make of rows."""
    return sorted_level(deeds, taken_few_rings(deeds, rows))


def form(deeds, rows):
    """Return the first of all shortest lists of rings that renamings make of rows."""
    return sorted_level(deeds, taken_few_rings(deeds, rows))[0]


def alike(deeds, one, other):
    """Return ("alike", renaming) if the renaming makes the rings of other of those of one, else ("unlike", forms)."""
    rings = taken_few_rings(deeds, one)
    goal = taken_few_rings(deeds, other)
    if len(rings) != len(goal):
        raise BadRows("both lists must have equally many rows")
    chain, first = rings_shortened(deeds, rings)
    goal_chain, last = rings_shortened(deeds, goal)
    came = level_from(deeds, first)
    goal_level = level_from(deeds, last)
    if last not in came:
        return ("unlike", min(list(came)), min(list(goal_level)))
    way_back = [undone_move(move) for move in reversed(goal_chain)]
    images = images_behind(chain_images(deeds, chain), images_to(deeds, came, last))
    return ("alike", images_behind(images, chain_images(deeds, way_back)))

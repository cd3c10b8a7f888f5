"""Levels: all shortest lists of rings that renamings make of rows, and whether lists are alike."""

from meankept.errors import BadRows, TooMany
from meankept.images import (chain_images, images_behind, move_images, renamed_rings, same_images,
                             undone_move)
from meankept.shortest import move_growths, rings_shortened, taken_few_rings

MOST_LISTS = 500


def exchange_rounds(deeds):
    """Return a list of lists of exchanges: each exchange does what at most one of each list does, list by list."""
    rounds = []
    for at in range(deeds):
        images = list(same_images(deeds))
        images[at] = (-at - 1,)
        rounds.append([tuple(images)])
    for at in range(1, deeds):
        swaps = []
        for elder in range(at):
            images = list(same_images(deeds))
            images[at] = (elder + 1,)
            images[elder] = (at + 1,)
            swaps.append(tuple(images))
        rounds.append(swaps)
    return rounds


def add_step(came, rings, step):
    """Add a list of rings to the dict came of a level, if it is new, with the step to it; raise TooMany if needed."""
    if rings not in came:
        came[rings] = step
        if len(came) > MOST_LISTS:
            raise TooMany(MOST_LISTS)


def add_exchanged(came, rings, step, rounds):
    """Add a new list of rings to the dict came of a level, with the step to it, and all that exchanges make of it."""
    elder = len(came)
    add_step(came, rings, step)
    for swaps in rounds:
        for other in list(came)[elder:]:
            for images in swaps:
                add_step(came, renamed_rings(images, other), (other, images))


def level_from(deeds, first):
    """Return a dict from the lists of rings of the level of shortest rings to the steps to these.

    A step is a pair of the list of rings from which it leads and a renaming; the first list has None.
    """
    rounds = exchange_rounds(deeds)
    came = {}
    add_exchanged(came, first, None, rounds)
    # What moves make of exchanged rings, exchanges make of what moves make of the rings themselves; so of all
    # that exchanges make of one another the moves of one are enough.
    waiting = [first]
    at = 0
    while at < len(waiting):
        for growth, move in move_growths(deeds, waiting[at]):
            if growth == 0:
                images = move_images(deeds, move)
                rings = renamed_rings(images, waiting[at])
                if rings not in came:
                    add_exchanged(came, rings, (waiting[at], images), rounds)
                    waiting.append(rings)
        at += 1
    return came


def sorted_level(deeds, rings):
    """Return the ascending list of the level of rings."""
    _, first = rings_shortened(deeds, rings)
    return sorted(level_from(deeds, first))


def images_to(deeds, came, rings):
    """Return the renaming that the steps of a level give that lead from its first list to rings."""
    images = same_images(deeds)
    step = came[rings]
    while step is not None:
        rings, last = step
        images = images_behind(last, images)
        step = came[rings]
    return images


def level(deeds, rows):
    """Return the ascending list of all shortest lists of rings that renamings make of rows."""
    return sorted_level(deeds, taken_few_rings(deeds, rows))


def form(deeds, rows):
    """Return the first of all shortest lists of rings that renamings make of rows."""
    return sorted_level(deeds, taken_few_rings(deeds, rows))[0]


def alike(deeds, one, other):
    """Return ("alike", renaming) if the renaming makes the rings of other of those of one, else ("unlike", forms)."""
    rings = taken_few_rings(deeds, one)
    goal = taken_few_rings(deeds, other)
    if len(rings) != len(goal):
        raise BadRows("both lists must have equally many rows")
    chain, first = rings_shortened(deeds, rings)
    goal_chain, last = rings_shortened(deeds, goal)
    came = level_from(deeds, first)
    if last not in came:
        return ("unlike", min(list(came)), min(list(level_from(deeds, last))))
    way_back = [undone_move(move) for move in reversed(goal_chain)]
    images = images_behind(chain_images(deeds, chain), images_to(deeds, came, last))
    return ("alike", images_behind(images, chain_images(deeds, way_back)))

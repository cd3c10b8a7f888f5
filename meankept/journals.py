"""Journals: the acts of a live house done again, and a short list of acts that leads to the same."""

from meankept.errors import BadJournal, KeepError
from meankept.images import same_images
from meankept.live import LiveRows

MOST_ACTS = 500
# How many items an act has, its name among them.
SIZES = {"keep": 3, "drop": 2, "turn": 3, "rename": 2, "move": 2}


def is_act(value):
    """Return whether value is a tuple of the name of an act and as many items as this takes."""
    if not isinstance(value, tuple) or len(value) == 0 or not isinstance(value[0], str):
        return False
    return SIZES.get(value[0]) == len(value)


def do_act(live, act):
    """Do an act, a tuple of its name and what it takes, to a live house."""
    word = act[0]
    if word == "keep":
        live.keep(act[1], act[2])
    elif word == "drop":
        live.drop(act[1])
    elif word == "turn":
        live.turn(act[1], act[2])
    elif word == "rename":
        live.rename(act[1])
    else:
        live.move(act[1])


def live_behind(deeds, acts):
    """Return a live house to which acts were done one by one; raise an error if a parameter does not fit."""
    live = LiveRows(deeds)
    if not isinstance(acts, (list, tuple)) or len(acts) > MOST_ACTS:
        raise BadJournal(-1)
    for at, act in enumerate(acts):
        if not is_act(act):
            raise BadJournal(at)
        try:
            do_act(live, act)
        except KeepError:
            raise BadJournal(at) from None
    return live


def replayed(deeds, acts):
    """Return a live house to which acts were done one by one."""
    return live_behind(deeds, acts)


def packed(deeds, acts):
    """Return a short list of acts that leads to the same names, rows and renaming so far."""
    live = live_behind(deeds, acts)
    images = live.renaming()
    found = [("rename", images)] if images != same_images(deeds) else []
    return found + [("keep", name, live.row(name)) for name in live.names()]

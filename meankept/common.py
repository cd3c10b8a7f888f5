"""What two webs have in common: the pieces of pairs of their places, and rows that are across one another."""

from meankept.errors import TooMany, UnlikeWebs
from meankept.kinds import check_place, taken_row
from meankept.letters import plain_letters, undone_letters
from meankept.walks import numbered, rank_of_steps, steps_of, take_off_ends, walked_on
from meankept.webs import check_two_webs, check_web

MOST_PAIRS = 20000


def check_pairs(one, other):
    """Raise an error unless two webs are of equally many deeds and have not too many pairs of places."""
    if one[0] != other[0]:
        raise UnlikeWebs("the webs must be of equally many deeds")
    if one[1] * other[1] > MOST_PAIRS:
        raise TooMany(MOST_PAIRS)


def pairs_from(one, other, first):
    """Return a dict from the pairs of places of two steps that hang together with a pair to how they are met.

    The pair itself has None, any other one the pair from which it is met and the letter that leads to it.
    """
    met = {first: None}
    waiting = [first]
    at = 0
    while at < len(waiting):
        place, mate = waiting[at]
        for letter, goal in one[place].items():
            if letter in other[mate]:
                pair = (goal, other[mate][letter])
                if pair not in met:
                    met[pair] = ((place, mate), letter)
                    waiting.append(pair)
        at += 1
    return met


def steps_of_pairs(one, other, pairs):
    """Return the steps of pairs of places of two steps, numbered in their sequence."""
    numbers = {pair: at for at, pair in enumerate(pairs)}
    return [{letter: numbers[(goal, other[mate][letter])] for letter, goal in one[place].items()
             if letter in other[mate]} for place, mate in pairs]


def piece_web(one, other, first):
    """Return the web that makes all rows that are read from a pair of places to it."""
    mine = steps_of(one)
    its = steps_of(other)
    steps = steps_of_pairs(mine, its, list(pairs_from(mine, its, first)))
    take_off_ends(steps, 0)
    return numbered(one[0], steps, 0)


def way_between(met, goal):
    """Return the letters by which a pair is met."""
    letters = []
    while met[goal] is not None:
        goal, letter = met[goal]
        letters.append(letter)
    return tuple(reversed(letters))


def piece(one, other, place, mate):
    """Return the web that makes all rows read from place to place in one and from mate to mate in other."""
    check_web(one)
    check_web(other)
    check_place(one[1], place)
    check_place(other[1], mate)
    check_pairs(one, other)
    return piece_web(one, other, (place, mate))


def common(one, other):
    """Return the web of what both webs make."""
    check_two_webs(one, other)
    check_pairs(one, other)
    return piece_web(one, other, (0, 0))


def common_pieces(one, other):
    """Return the ascending list of the least pair and the rank of each piece with a rank of 1 or more."""
    check_two_webs(one, other)
    check_pairs(one, other)
    mine = steps_of(one)
    its = steps_of(other)
    met = {}
    found = []
    for first in [(place, mate) for place in range(one[1]) for mate in range(other[1])]:
        if first in met:
            continue
        pairs = list(pairs_from(mine, its, first))
        for pair in pairs:
            met[pair] = True
        rank = rank_of_steps(steps_of_pairs(mine, its, pairs))
        if rank >= 1:
            found.append((first[0], first[1], rank))
    return found


def across(one, other, row, goal):
    """Return a pair of rows, made by one and by other, that ahead of row and behind it give goal; None if none do."""
    check_web(one)
    check_web(other)
    letters = taken_row(one[0], row)
    goal_letters = taken_row(one[0], goal)
    check_pairs(one, other)
    steps = steps_of(one)
    first = (walked_on(steps, letters, 0), 0)
    last = (walked_on(steps, goal_letters, 0), 0)
    met = pairs_from(steps, steps_of(other), first)
    if last not in met:
        return None
    # What one makes and then row, then this way, is what one makes and then goal; and other makes the way.
    way = way_between(met, last)
    return (plain_letters(goal_letters + undone_letters(way) + undone_letters(letters)), way)


def piece_of(one, other, row):
    """Return the least pair of the piece of row, None if it has none."""
    check_web(one)
    check_web(other)
    letters = taken_row(one[0], row)
    check_pairs(one, other)
    steps = steps_of(one)
    met = pairs_from(steps, steps_of(other), (walked_on(steps, letters, 0), 0))
    # The places behind those of one were put there for the row alone.
    return min([pair for pair in met if pair[0] < one[1]], default=None)

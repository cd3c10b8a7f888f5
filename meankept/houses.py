"""Houses: where rows lead their places, which of them rows keep, and how many in all houses of a size."""

from itertools import permutations
from math import factorial, perm

from meankept.errors import BadHouse, TooMany
from meankept.filling import filled_house
from meankept.growing import kept_steps
from meankept.kinds import check_deeds, check_place, check_places, is_whole_from, taken_row, taken_rows
from meankept.walks import add_step, house_steps, ties_told, walked

MOST_PLACES = 60
MOST_HOUSES = 20000
MOST_LETTERS_MOVED = 12


def is_order(places, value):
    """Return whether value is a tuple of the wholes below places, each once."""
    if not isinstance(value, tuple) or len(value) != places:
        return False
    return all([is_whole_from(item, 0, places - 1) for item in value]) and len(set(value)) == places


def has_house_form(deeds, value):
    """Return whether value is a house with so many deeds, which are checked already."""
    if not isinstance(value, tuple) or len(value) != deeds or not isinstance(value[0], tuple):
        return False
    places = len(value[0])
    return is_whole_from(places, 1, MOST_PLACES) and all([is_order(places, order) for order in value])


def check_house(deeds, house):
    """Raise BadHouse unless house is one with so many deeds, which are checked already."""
    if not has_house_form(deeds, house):
        raise BadHouse(f"a house must have an order of the same 1 to {MOST_PLACES} places for each deed")


def is_kept(steps, rows, place):
    """Return whether each of the rows leads place to itself."""
    return all([walked(steps, row, place) == place for row in rows])


def has_more_houses(deeds, places, most):
    """Return whether there are more than most houses of so many deeds and places."""
    many = 1
    for factor in range(2, places + 1):
        for _ in range(deeds):
            many *= factor
        # Already this many are too many; places may be far too many to go on.
        if many > most:
            return True
    return False


def all_houses(deeds, places):
    """Return the list of all houses of so many deeds and places."""
    orders = list(permutations(range(places)))
    houses = [()]
    for _ in range(deeds):
        houses = [house + (order,) for house in houses for order in orders]
    return houses


def many_houses_with(deeds, steps, places):
    """Return how many houses of so many places have steps, whatever numbers their places but 0 have there."""
    many = perm(places - 1, len(steps) - 1)
    for tied in ties_told(deeds, steps):
        many *= factorial(places - tied)
    return many


def lead_elsewhere(steps, letters, place, met, places):
    """Add steps by which letters lead place to another place than 0; return whether this can be done.

    Only the first met places have steps as yet; places further on, up to so many places, are all alike.
    If it cannot be done, the steps stay as they were.
    """
    if letters == ():
        return place != 0
    letter = letters[0]
    if letter in steps[place]:
        return lead_elsewhere(steps, letters[1:], steps[place][letter], met, places)
    for goal in range(min(met + 1, places)):
        if -letter in steps[goal]:
            continue
        add_step(steps, place, letter, goal)
        if lead_elsewhere(steps, letters[1:], goal, max(met, goal + 1), places):
            return True
        del steps[place][letter]
        del steps[goal][-letter]
    return False


def is_house(deeds, value):
    """Return whether value is a house with so many deeds."""
    check_deeds(deeds)
    return has_house_form(deeds, value)


def led(deeds, house, row, place):
    """Return the place to which row leads place."""
    check_deeds(deeds)
    check_house(deeds, house)
    letters = taken_row(deeds, row)
    check_place(len(house[0]), place)
    return walked(house_steps(house), letters, place)


def kept(deeds, house, rows):
    """Return the ascending list of the places that the rows keep."""
    check_deeds(deeds)
    check_house(deeds, house)
    plain_rows = taken_rows(deeds, rows)
    steps = house_steps(house)
    return [place for place in range(len(steps)) if is_kept(steps, plain_rows, place)]


def total_kept(deeds, rows, places):
    """Return the sum over all houses of so many places of how many places the rows keep."""
    check_deeds(deeds)
    plain_rows = taken_rows(deeds, rows)
    check_places(places)
    if has_more_houses(deeds, places, MOST_HOUSES):
        raise TooMany(MOST_HOUSES)
    begun = [[{}]]
    for row in plain_rows:
        begun = kept_steps(begun, row, places)
    # Two places exchanged in all houses give all houses again: each place is kept as often as the place 0.
    return places * sum([many_houses_with(deeds, steps, places) for steps in begun])


def least_house(deeds, row):
    """Return the least number of places of a house with a place that row moves, such a house and place."""
    check_deeds(deeds)
    letters = taken_row(deeds, row)
    if len(letters) > MOST_LETTERS_MOVED:
        raise TooMany(MOST_LETTERS_MOVED)
    if letters == ():
        return None
    places = 2
    steps = [{}, {}]
    while not lead_elsewhere(steps, letters, 0, 1, places):
        places += 1
        steps.append({})
    return (places, filled_house(deeds, steps), 0)

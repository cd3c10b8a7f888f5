"""Pictures: what comes of a web by joining places; and how webs are laid into one another."""

from meankept.errors import NotOver
from meankept.folding import web_of_plain
from meankept.houses import check_house
from meankept.kinds import check_deeds, check_place, taken_rows
from meankept.picturing import all_pictures, joined_web, joint_web, laid_places, part_given
from meankept.walks import add_step, house_steps, numbered
from meankept.webs import check_two_webs, check_web


def check_over(inner, outer):
    """Raise an error unless inner and outer are webs and outer is over inner; return how inner is laid."""
    check_two_webs(inner, outer)
    given = laid_places(inner, outer)
    if given is None:
        raise NotOver("outer must be over inner")
    return given


def laid(inner, outer):
    """Return the places of outer that the places of inner are given, None if inner cannot be laid into outer."""
    check_two_webs(inner, outer)
    return laid_places(inner, outer)


def part(inner, outer):
    """Return the web of those places and ties of outer that the places and ties of inner are given."""
    given = check_over(inner, outer)
    return part_given(inner, outer, given)


def lies_over(one, other):
    """Return whether one is laid onto other."""
    check_two_webs(one, other)
    given = laid_places(one, other)
    return given is not None and part_given(one, other, given) == other


def joined(web, place, mate):
    """Return the web that comes of joining two places of web."""
    check_web(web)
    check_place(web[1], place)
    check_place(web[1], mate)
    return joined_web(web, place, mate)


def pictures_of(web):
    """Return the ascending list of the pictures of web."""
    check_web(web)
    return all_pictures(web)


def pictures(deeds, rows):
    """Return the ascending list of the pictures of rows."""
    check_deeds(deeds)
    return all_pictures(web_of_plain(deeds, taken_rows(deeds, rows)))


def seen(deeds, rows, house, place):
    """Return the picture of rows that a place of house shows, None if some row does not keep it."""
    check_deeds(deeds)
    plain_rows = taken_rows(deeds, rows)
    check_house(deeds, house)
    check_place(len(house[0]), place)
    steps = house_steps(house)
    found = [{} for leads in steps]
    for row in plain_rows:
        at = place
        for letter in row:
            goal = steps[at][letter]
            add_step(found, at, letter, goal)
            at = goal
        if at != place:
            return None
    return numbered(deeds, found, place)


def joint(one, other):
    """Return the web that makes all products of rows each of which one or other makes."""
    check_two_webs(one, other)
    return joint_web(one, other)

"""Numbers: wholes, and pairs of wholes that are worth their quotient."""

from math import gcd

from meankept.errors import BadNumber
from meankept.kinds import is_whole


def is_number(value):
    """Return whether value is a number."""
    if is_whole(value):
        return True
    if not isinstance(value, tuple) or len(value) != 2:
        return False
    top, bottom = value
    return is_whole(top) and is_whole(bottom) and bottom >= 2 and gcd(top, bottom) == 1


def number(top, bottom):
    """Return the number that is worth top divided by bottom."""
    if not is_whole(top):
        raise BadNumber("top must be a whole")
    if not is_whole(bottom) or bottom == 0:
        raise BadNumber("bottom must be a whole other than 0")
    common = gcd(top, bottom)
    if bottom < 0:
        common = -common
    if bottom == common:
        return top // common
    return (top // common, bottom // common)

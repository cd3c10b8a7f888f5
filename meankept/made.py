"""What is made by rows: the papers that tell how it is made, or that it is not, or that nothing is."""

from meankept.errors import TooMany
from meankept.filling import filled_house
from meankept.folding import web_of_plain
from meankept.houses import MOST_PLACES
from meankept.kinds import check_deeds, taken_row, taken_rows
from meankept.letters import plain_letters, undone_letters
from meankept.lists import freeing_changes
from meankept.walks import rank_of, spelling_of, steps_of, walked_on


def numbers_ahead(change):
    """Return what the numbers of rows that a change concerns stand for ahead of it."""
    one = change[1] + 1
    if change[0] == "undo":
        return {one: (-one,)}
    other = change[2] + 1
    if change[0] == "put":
        return {one: (one, other)}
    return {one: (other,), other: (one,)}


def spelled_ahead(spelling, changes):
    """Return the plain spelling for rows that tells what spelling tells for the rows behind changes."""
    for change in reversed(changes):
        ahead = numbers_ahead(change)
        numbers = []
        for number in spelling:
            if number > 0:
                numbers.extend(ahead.get(number, (number,)))
            else:
                numbers.extend(undone_letters(ahead.get(-number, (-number,))))
        spelling = plain_letters(numbers)
    return spelling


def parting_house(web, letters):
    """Return a house with all ties of a web in which letters, which the web does not make, move the place 0."""
    deeds, places, _ = web
    steps = steps_of(web)
    place = 0
    at = 0
    while at < len(letters) and letters[at] in steps[place]:
        place = steps[place][letters[at]]
        at += 1
    if places + len(letters) - at > MOST_PLACES:
        raise TooMany(MOST_PLACES)
    walked_on(steps, letters[at:], place)
    return filled_house(deeds, steps)


def made_of(deeds, rows, row):
    """Return ("made", spelling) if rows make row, else ("parted", house) with a house that shows it."""
    check_deeds(deeds)
    plain_rows = taken_rows(deeds, rows)
    letters = taken_row(deeds, row)
    web = web_of_plain(deeds, plain_rows)
    spelling = spelling_of(web, letters)
    if spelling is None:
        return ("parted", parting_house(web, letters))
    return ("made", spelled_ahead(spelling, freeing_changes(web, plain_rows)))


def nothing_of(deeds, rows):
    """Return a plain spelling for rows, not empty, that tells (), None if there is none."""
    check_deeds(deeds)
    plain_rows = taken_rows(deeds, rows)
    web = web_of_plain(deeds, plain_rows)
    many = rank_of(web)
    if len(plain_rows) == many:
        return None
    # Behind the changes the rows from this one on are ().
    return spelled_ahead((many + 1,), freeing_changes(web, plain_rows))

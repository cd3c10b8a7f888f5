"""Renamings: the images of all deeds, which together make every row."""

from meankept.errors import BadRenaming, TooMany
from meankept.folding import web_of_plain
from meankept.images import MOST_IMAGE_LETTERS, back_images, images_behind, many_letters
from meankept.kinds import are_letters, check_deeds, taken_row
from meankept.letters import plain_letters, told_letters, turned_letters
from meankept.rings import ring_and_way


def is_image(deeds, value):
    """Return whether value is a plain row of any number of letters."""
    return are_letters(deeds, value) and plain_letters(value) == value


def are_images(deeds, value):
    """Return whether value is a renaming of so many deeds, which are checked already."""
    if not isinstance(value, tuple) or len(value) != deeds:
        return False
    if not all([is_image(deeds, item) for item in value]):
        return False
    _, places, ties = web_of_plain(deeds, list(value))
    return places == 1 and len(ties) == deeds


def check_renaming(deeds, renaming):
    """Raise BadRenaming unless renaming is one of so many deeds, which are checked already."""
    if not are_images(deeds, renaming):
        raise BadRenaming("a renaming must be a tuple of plain rows that together make every row")


def is_renaming(deeds, value):
    """Return whether value is a renaming of so many deeds."""
    check_deeds(deeds)
    return are_images(deeds, value)


def renamed(deeds, renaming, row):
    """Return the renamed row."""
    check_deeds(deeds)
    check_renaming(deeds, renaming)
    return told_letters(renaming, taken_row(deeds, row))


def behind(deeds, first, second):
    """Return the renaming that does what first does, and then second."""
    check_deeds(deeds)
    check_renaming(deeds, first)
    check_renaming(deeds, second)
    images = images_behind(first, second)
    if many_letters(images) > MOST_IMAGE_LETTERS:
        raise TooMany(MOST_IMAGE_LETTERS)
    return images


def back_renaming(deeds, renaming):
    """Return the renaming that leads each renamed row back."""
    check_deeds(deeds)
    check_renaming(deeds, renaming)
    return back_images(renaming)


def turned_by(deeds, renaming):
    """Return a row by which each row, renamed, is turned, None if there is none."""
    check_deeds(deeds)
    check_renaming(deeds, renaming)
    # The way of the ring to its image is the row but for letters of the deed itself at the end; so with two
    # deeds or more one of the ways is the row.
    by = max([ring_and_way(image)[1] for image in renaming], key=len)
    turned = [turned_letters((deed,), by) for deed in range(1, deeds + 1)]
    return by if tuple(turned) == renaming else None

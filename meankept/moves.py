"""Moves: renamings that put one letter behind some letters; and chains of moves."""

from itertools import combinations

from meankept.errors import BadMove, TooMany
from meankept.images import (MOST_IMAGE_LETTERS, chain_and_exchange, images_behind, many_letters, move_images,
                             same_images, undone_move)
from meankept.kinds import are_letters, check_deeds, is_letter
from meankept.renamings import check_renaming
from meankept.walks import tried_letters


def is_lot(deeds, letter, value):
    """Return whether value is a lot for a letter: others than it and its undo, ascending."""
    if not are_letters(deeds, value) or value == () or letter in value or -letter in value:
        return False
    return all([one < other for one, other in zip(value, value[1:])])


def has_move_form(deeds, value):
    """Return whether value is a move of so many deeds, which are checked already."""
    if not isinstance(value, tuple) or len(value) != 2:
        return False
    return is_letter(deeds, value[0]) and is_lot(deeds, value[0], value[1])


def check_move(deeds, move):
    """Raise BadMove unless move is one of so many deeds, which are checked already."""
    if not has_move_form(deeds, move):
        raise BadMove("a move must be a pair of a letter and an ascending tuple of other letters")


def check_chain(deeds, chain):
    """Raise BadMove unless chain is a list of moves of so many deeds, which are checked already."""
    if not isinstance(chain, (list, tuple)):
        raise BadMove("a chain must be a list of moves")
    for move in chain:
        check_move(deeds, move)


def lots_for(deeds, letter):
    """Return the list of all lots for a letter."""
    others = sorted([other for other in tried_letters(deeds) if other not in (letter, -letter)])
    found = []
    for many in range(1, len(others) + 1):
        found.extend(list(combinations(others, many)))
    return found


def is_move(deeds, value):
    """Return whether value is a move of so many deeds."""
    check_deeds(deeds)
    return has_move_form(deeds, value)


def moves(deeds):
    """Return the ascending list of all moves of so many deeds."""
    check_deeds(deeds)
    return sorted([(letter, lot) for letter in tried_letters(deeds) for lot in lots_for(deeds, letter)])


def move_renaming(deeds, move):
    """Return the renaming of move."""
    check_deeds(deeds)
    check_move(deeds, move)
    return move_images(deeds, move)


def back_move(deeds, move):
    """Return the move whose renaming is the back one of that of move."""
    check_deeds(deeds)
    check_move(deeds, move)
    return undone_move(move)


def chained(deeds, chain):
    """Return the renaming that does what all moves of chain do, the first one first."""
    check_deeds(deeds)
    check_chain(deeds, chain)
    images = same_images(deeds)
    for move in chain:
        images = images_behind(images, move_images(deeds, move))
        if many_letters(images) > MOST_IMAGE_LETTERS:
            raise TooMany(MOST_IMAGE_LETTERS)
    return images


def chain_of(deeds, renaming):
    """Return a chain and an exchange that do what renaming does, such that nothing grows on the way."""
    check_deeds(deeds)
    check_renaming(deeds, renaming)
    return chain_and_exchange(renaming)

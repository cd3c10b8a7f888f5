"""Work on the images of renamings, on moves and on chains of these, which are checked already."""

from meankept.errors import TooMany
from meankept.letters import told_letters, undone_letters
from meankept.lists import make_all_simple
from meankept.rings import ring_and_way

MOST_IMAGE_LETTERS = 2000


def same_images(deeds):
    """Return the renaming that leaves each row."""
    return tuple([(deed,) for deed in range(1, deeds + 1)])


def many_letters(rows):
    """Return how many letters rows have together."""
    return sum([len(row) for row in rows])


def images_behind(first, second):
    """Return the renaming that does what the renaming first does, and then second."""
    return tuple([told_letters(second, image) for image in first])


def renamed_rings(images, rings):
    """Return the tuple of the rings of renamed rings."""
    return tuple([ring_and_way(told_letters(images, ring))[0] for ring in rings])


def undone_move(move):
    """Return the move of the back renaming of that of a move."""
    letter, lot = move
    return (-letter, lot)


def move_images(deeds, move):
    """Return the renaming of a move."""
    letter, lot = move
    found = []
    for deed in range(1, deeds + 1):
        ahead = (-letter,) if -deed in lot else ()
        after = (letter,) if deed in lot else ()
        found.append(ahead + (deed,) + after)
    return tuple(found)


def chain_images(deeds, chain):
    """Return the renaming that does what all moves of a chain do."""
    images = same_images(deeds)
    for move in chain:
        images = images_behind(images, move_images(deeds, move))
    return images


def back_exchange(exchange):
    """Return the back renaming of a renaming whose images are single letters."""
    found = {}
    for at, (letter,) in enumerate(exchange):
        found[letter] = (at + 1,)
        found[-letter] = (-at - 1,)
    return tuple([found[deed] for deed in range(1, len(exchange) + 1)])


def chain_and_exchange(images):
    """Return a chain and an exchange that do what a renaming does, such that nothing grows on the way.

    Ahead of the images comes the move by which one of them is made simpler, taken back.
    """
    words = list(images)
    changes = []
    make_all_simple(words, changes)
    # Of which letter each word is the image by now; its undo is meant where the word has been undone.
    marks = list(range(1, len(words) + 1))
    chain = []
    for change in changes:
        at = change[1]
        if change[0] == "undo":
            marks[at] = -marks[at]
        else:
            chain.append((-marks[change[2]], (marks[at],)))
    exchange = [word if mark > 0 else undone_letters(word) for word, mark in zip(words, marks)]
    return tuple(chain), tuple(exchange)


def longest_images(deeds, chain):
    """Return for each beginning of a chain but the whole how many letters its longest image has."""
    images = same_images(deeds)
    found = []
    for move in chain:
        found.append(max([len(image) for image in images]))
        images = images_behind(images, move_images(deeds, move))
    return found


def back_images(images):
    """Return the back renaming of a renaming; raise TooMany if it has too many letters."""
    deeds = len(images)
    chain, exchange = chain_and_exchange(images)
    longest = longest_images(deeds, chain)
    found = back_exchange(exchange)
    for move, most in zip(reversed(chain), reversed(longest)):
        found = images_behind(found, move_images(deeds, undone_move(move)))
        # The back renaming, and then the moves ahead, give what is found by now: a letter of the back
        # renaming can give no more letters than the longest image has.
        if many_letters(found) > MOST_IMAGE_LETTERS * most:
            raise TooMany(MOST_IMAGE_LETTERS)
    return found

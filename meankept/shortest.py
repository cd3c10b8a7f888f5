"""Shortest lists of rings: how short renamings make rings, and how they part them."""

from math import gcd

from meankept.errors import BadNumber, BadRows
from meankept.images import (chain_images, images_behind, many_letters, move_images, renamed_rings, same_images)
from meankept.kinds import check_deeds, is_whole, taken_row, taken_rows
from meankept.letters import told_letters, turned_letters, undone_letters
from meankept.moves import check_chain, has_move_form
from meankept.neighbours import all_pieces, rings_of_plain, ties_at, ties_of
from meankept.rings import ring_and_way
from meankept.walks import tried_letters

MOST_RINGS = 4
MOST_SIZES = 200


def taken_few_rings(deeds, rows):
    """Return the rings for which one to four passed rows count; raise an error for anything else."""
    check_deeds(deeds)
    found = taken_rows(deeds, rows)
    if not 1 <= len(found) <= MOST_RINGS:
        raise BadRows(f"rows must be a list of 1 to {MOST_RINGS} rows")
    return rings_of_plain(found)


def ties_between(one, other, ties):
    """Return how many ties there are between two letters."""
    return ties.get((min(one, other), max(one, other)), 0)


def all_cuts(letter, others, ties):
    """Return the list of pairs of a lot of others, and how many ties go out of it together with letter."""
    cuts = [((), ties_at(letter, ties))]
    for at, other in enumerate(others):
        within = [ties_between(other, letter, ties)]
        for elder in others[:at]:
            many = ties_between(other, elder, ties)
            within = within + [known + many for known in within]
        own = ties_at(other, ties)
        cuts = cuts + [(lot + (other,), cut + own - 2 * many) for (lot, cut), many in zip(cuts, within)]
    return cuts


def move_growths(deeds, rings):
    """Return the list of pairs of how many letters more rings have behind a move, and this move.

    The moves of undone letters are left out: the move with the undo and the rest does the same to rings.
    """
    ties = ties_of(rings)
    found = []
    for deed in range(1, deeds + 1):
        others = sorted([other for other in tried_letters(deeds) if other not in (deed, -deed)])
        own = ties_at(deed, ties)
        found.extend([(cut - own, (deed, lot)) for lot, cut in all_cuts(deed, others, ties)[1:]])
    return found


def best_move(deeds, rings):
    """Return the move that makes rings shortest, None if no move makes them shorter."""
    # Of equally good moves the one with the least lot spares what it renames.
    choices = [(growth, len(move[1]), move) for growth, move in move_growths(deeds, rings) if growth < 0]
    return min(choices)[2] if choices else None


def rings_shortened(deeds, rings):
    """Return a tuple of moves of which each makes rings shorter, and the shortest rings that they give."""
    chain = []
    move = best_move(deeds, rings)
    while move is not None:
        chain.append(move)
        rings = renamed_rings(move_images(deeds, move), rings)
        move = best_move(deeds, rings)
    return tuple(chain), rings


def leading_to_first(deeds, letter):
    """Return the exchange that leads a letter to 1, and exchanges no more than this needs."""
    images = list(same_images(deeds))
    deed = abs(letter)
    images[0] = (deed,)
    images[deed - 1] = (letter // deed,)
    return tuple(images)


def standing_deeds(rings):
    """Return the ascending tuple of the deeds that stand in rings, done or undone."""
    return tuple(sorted(set([abs(letter) for ring in rings for letter in ring])))


def lots_of_shortest(deeds, rings):
    """Return the ascending tuple of as many lots of deeds as can be that part shortest rings."""
    found = []
    for piece in all_pieces(deeds, ties_of(rings)):
        lot = standing_deeds([piece])
        # The deeds that stand in no ring have two pieces, the done letter and the undone one.
        if lot not in found:
            found.append(lot)
    return tuple(sorted(found))


def rings_of(deeds, rows):
    """Return the tuple of the rings of rows."""
    return taken_few_rings(deeds, rows)


def total(deeds, rows):
    """Return how many letters the rings of rows have together."""
    return many_letters(taken_few_rings(deeds, rows))


def done(deeds, rows, moves):
    """Return the tuple of rings that comes of the rings of rows by moves, one after another."""
    rings = taken_few_rings(deeds, rows)
    check_chain(deeds, moves)
    for move in moves:
        rings = renamed_rings(move_images(deeds, move), rings)
    return rings


def is_shortest(deeds, rows):
    """Return whether no renaming makes of rows others whose rings have fewer letters together."""
    return best_move(deeds, taken_few_rings(deeds, rows)) is None


def is_chain(deeds, rows, thing):
    """Return whether thing is a list of moves of which each one makes the rings of rows shorter."""
    rings = taken_few_rings(deeds, rows)
    if not isinstance(thing, (list, tuple)):
        return False
    for move in thing:
        if not has_move_form(deeds, move):
            return False
        size = many_letters(rings)
        rings = renamed_rings(move_images(deeds, move), rings)
        if many_letters(rings) >= size:
            return False
    return True


def shortened(deeds, rows):
    """Return a tuple of moves of which each makes the rings of rows shorter, and the shortest rings."""
    return rings_shortened(deeds, taken_few_rings(deeds, rows))


def as_letter(deeds, row):
    """Return a renaming that leads row to (1,), None if there is none."""
    check_deeds(deeds)
    letters = taken_row(deeds, row)
    chain, rings = rings_shortened(deeds, rings_of_plain([letters]))
    if many_letters(rings) != 1:
        return None
    images = images_behind(chain_images(deeds, chain), leading_to_first(deeds, rings[0][0]))
    _, way = ring_and_way(told_letters(images, letters))
    return tuple([turned_letters(image, undone_letters(way)) for image in images])


def slope(first, second):
    """Return the ring of two deeds with the sums first and second that a renaming makes a letter."""
    if not is_whole(first):
        raise BadNumber("first must be a whole")
    if not is_whole(second):
        raise BadNumber("second must be a whole")
    size = abs(first) + abs(second)
    if gcd(first, second) != 1 or size > MOST_SIZES:
        raise BadNumber(f"the sums must have no common divisor and be at most {MOST_SIZES} together")
    one = 1 if first > 0 else -1
    other = 2 if second > 0 else -2
    # The letters of both kinds are spread as evenly as they can be.
    steps = [abs(second) * at // size for at in range(size + 1)]
    spread = [one if low == high else other for low, high in zip(steps, steps[1:])]
    return rings_of_plain([tuple(spread)])[0]


def needed(deeds, rows):
    """Return the least number of deeds that stand in the rings that a renaming makes of rows."""
    _, rings = rings_shortened(deeds, taken_few_rings(deeds, rows))
    return len(standing_deeds(rings))


def parted(deeds, rows):
    """Return a renaming and as many lots of deeds as can be that part rows, None if two cannot."""
    chain, rings = rings_shortened(deeds, taken_few_rings(deeds, rows))
    lots = lots_of_shortest(deeds, rings)
    if len(lots) < 2:
        return None
    return (chain_images(deeds, chain), lots)

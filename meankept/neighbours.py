"""Neighbours: which letters stand beside one another in rings, and the moves that this tells to be of use."""

from meankept.images import many_letters, move_images, renamed_rings
from meankept.kinds import check_deeds, taken_rows
from meankept.moves import check_move
from meankept.rings import ring_and_way
from meankept.walks import tried_letters


def rings_of_plain(rows):
    """Return the tuple of the rings of plain rows."""
    return tuple([ring_and_way(row)[0] for row in rows])


def taken_rings(deeds, rows):
    """Return the rings for which passed rows count; raise an error if deeds or rows are none."""
    check_deeds(deeds)
    return rings_of_plain(taken_rows(deeds, rows))


def ties_of(rings):
    """Return the dict of how many ties there are between any two letters of rings."""
    found = {}
    for ring in rings:
        for letter, following in zip(ring, ring[1:] + ring[:1]):
            pair = (min(letter, -following), max(letter, -following))
            found[pair] = found.get(pair, 0) + 1
    return {pair: found[pair] for pair in sorted(found)}


def ties_at(letter, ties):
    """Return how many ties are at a letter."""
    return sum([many for pair, many in ties.items() if letter in pair])


def ties_across(lot, ties):
    """Return how many ties there are of which just one letter is in a lot."""
    return sum([many for (one, other), many in ties.items() if (one in lot) != (other in lot)])


def hanging_lots(lot, pairs):
    """Return the ascending list of the greatest lots of letters, out of a lot, that hang together by pairs."""
    lots = {letter: (letter,) for letter in lot}
    for one, other in pairs:
        if lots[one] != lots[other]:
            both = tuple(sorted(lots[one] + lots[other]))
            for letter in both:
                lots[letter] = both
    return sorted(set([lots[letter] for letter in lot]))


def all_pieces(deeds, ties):
    """Return the ascending list of the pieces of all letters."""
    return hanging_lots(tried_letters(deeds), list(ties))


def piece_with(letter, deeds, ties):
    """Return the piece of a letter."""
    return [piece for piece in all_pieces(deeds, ties) if letter in piece][0]


def parts_at(letter, deeds, ties):
    """Return the ascending list of the parts at a letter."""
    others = [other for other in piece_with(letter, deeds, ties) if other != letter]
    pairs = [pair for pair in ties if letter not in pair and pair[0] in others]
    return hanging_lots(others, pairs)


def first_cut_move(deeds, ties):
    """Return the first of the cut moves with one part as their lot, None if there are none."""
    for letter in sorted(tried_letters(deeds)):
        for part in parts_at(letter, deeds, ties):
            # If this is the only part, the undo of the letter is not in the piece: the letter is loose.
            if -letter not in part:
                return (letter, part)
    return None


def rings_cut_down(deeds, rings):
    """Return a tuple of cut moves, one behind the other, and the rings that they give, without cut moves."""
    chain = []
    move = first_cut_move(deeds, ties_of(rings))
    while move is not None:
        chain.append(move)
        rings = renamed_rings(move_images(deeds, move), rings)
        move = first_cut_move(deeds, ties_of(rings))
    return tuple(chain), rings


def neighbours(deeds, rows):
    """Return the dict from pairs of letters with ties to how many ties these have."""
    return ties_of(taken_rings(deeds, rows))


def length_behind(deeds, rows, move):
    """Return how many letters the rings of the rows, renamed by move, have together."""
    rings = taken_rings(deeds, rows)
    check_move(deeds, move)
    letter, lot = move
    ties = ties_of(rings)
    return many_letters(rings) - ties_at(letter, ties) + ties_across((letter,) + lot, ties)


def pieces(deeds, rows):
    """Return the ascending list of the greatest lots of letters that hang together."""
    return all_pieces(deeds, ties_of(taken_rings(deeds, rows)))


def cut_letters(deeds, rows):
    """Return the ascending list of the letters with two parts or more."""
    ties = ties_of(taken_rings(deeds, rows))
    return [letter for letter in sorted(tried_letters(deeds)) if len(parts_at(letter, deeds, ties)) > 1]


def loose_letters(deeds, rows):
    """Return the ascending list of the letters with ties whose undo is not in their piece."""
    ties = ties_of(taken_rings(deeds, rows))
    return [letter for letter in sorted(tried_letters(deeds))
            if ties_at(letter, ties) > 0 and -letter not in piece_with(letter, deeds, ties)]


def cut_move(deeds, rows):
    """Return a cut move of rows, None if there is none."""
    return first_cut_move(deeds, ties_of(taken_rings(deeds, rows)))


def cut_down(deeds, rows):
    """Return a tuple of cut moves, one behind the other, and the rings that they give, without cut moves."""
    return rings_cut_down(deeds, taken_rings(deeds, rows))


def groups(deeds, rows):
    """Return the ascending list of pairs: the numbers of rows whose last rings are in one piece, and its deeds."""
    _, rings = rings_cut_down(deeds, taken_rings(deeds, rows))
    found = []
    for piece in all_pieces(deeds, ties_of(rings)):
        numbers = tuple([at for at, ring in enumerate(rings) if ring != () and ring[0] in piece])
        if numbers != ():
            found.append((numbers, len(piece) // 2))
    return sorted(found)

"""Rings: rows up to turning, what turns rows into one another, roots, and rows that commute."""

from meankept.kinds import check_deeds, taken_row
from meankept.letters import plain_letters, turned_letters, undone_letters


def first_turn(letters):
    """Return how many letters to bring from the front to the end for what comes first, ascending."""
    size = len(letters)
    twice = letters + letters
    best = 0
    rival = 1
    same = 0
    while best < size and rival < size and same < size:
        mine = twice[best + same]
        its = twice[rival + same]
        if mine == its:
            same += 1
            continue
        # None of the starts that the loser has passed can come first.
        if mine < its:
            rival += same + 1
        else:
            best += same + 1
        if best == rival:
            rival += 1
        same = 0
    return min(best, rival)


def ring_and_way(row):
    """Return the ring of a plain row, and a plain row by which this ring, turned, is the row."""
    last = len(row) - 1
    off = 0
    while off < last - off and row[off] == -row[last - off]:
        off += 1
    middle = row[off:len(row) - off]
    start = first_turn(middle)
    return middle[start:] + middle[:start], row[:off + start]


def shortest_lap(ring):
    """Return the least length of a beginning that gives the ring, not (), again and again."""
    size = 1
    while len(ring) % size != 0 or ring[:size] * (len(ring) // size) != ring:
        size += 1
    return size


def root_and_many(row):
    """Return the root of a plain row, and how many times it the row is."""
    if row == ():
        return (), 0
    ring, way = ring_and_way(row)
    size = shortest_lap(ring)
    return turned_letters(ring[:size], way), len(ring) // size


def ring_of(deeds, row):
    """Return the ring of row."""
    check_deeds(deeds)
    ring, _ = ring_and_way(taken_row(deeds, row))
    return ring


def turner(deeds, one, other):
    """Return ("turned", by) if one turned by the row by is other, else ("unlike", both rings)."""
    check_deeds(deeds)
    first = taken_row(deeds, one)
    second = taken_row(deeds, other)
    ring, way = ring_and_way(first)
    goal, goal_way = ring_and_way(second)
    if ring != goal:
        return ("unlike", ring, goal)
    return ("turned", plain_letters(goal_way + undone_letters(way)))


def root(deeds, row):
    """Return the root of row, and how many times it the row is."""
    check_deeds(deeds)
    return root_and_many(taken_row(deeds, row))


def meet_power(deeds, one, other):
    """Return the root of which both rows are so many times, or the row that shows them apart."""
    check_deeds(deeds)
    first = taken_row(deeds, one)
    second = taken_row(deeds, other)
    back = undone_letters(first) + undone_letters(second)
    apart = plain_letters(first + second + back)
    if apart != ():
        return ("apart", apart)
    first_root, first_many = root_and_many(first)
    second_root, second_many = root_and_many(second)
    if first == ():
        return ("powers", second_root, 0, second_many)
    if second_root == undone_letters(first_root):
        second_many = -second_many
    return ("powers", first_root, first_many, second_many)

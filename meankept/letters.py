"""Work on tuples of letters of any length, which nothing checks any more."""


def plain_letters(letters):
    """Return the plain row of letters."""
    kept = []
    for letter in letters:
        if kept and kept[-1] == -letter:
            kept.pop()
        else:
            kept.append(letter)
    return tuple(kept)


def undone_letters(letters):
    """Return letters undone."""
    return tuple([-letter for letter in reversed(letters)])


def turned_letters(letters, by):
    """Return the plain row of letters turned by the row by."""
    return plain_letters(by + letters + undone_letters(by))


def met_letters(one, other):
    """Return how many letters the end of one and the beginning of other take out of one another."""
    most = min(len(one), len(other))
    many = 0
    while many < most and one[-1 - many] == -other[many]:
        many += 1
    return many


def product_letters(one, other):
    """Return the product of two plain rows."""
    many = met_letters(one, other)
    return one[:len(one) - many] + other[many:]


def told_letters(rows, spelling):
    """Return the plain row that a spelling for rows tells."""
    parts = {}
    for at, row in enumerate(rows):
        parts[at + 1] = row
        parts[-at - 1] = undone_letters(row)
    letters = []
    for number in spelling:
        letters.extend(parts[number])
    return plain_letters(letters)

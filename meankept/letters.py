"""Work on tuples of letters of any length, which nothing checks any more."""


def plain_letters(letters):
    """Return the plain row of letters."""
    kept = []
    for letter in letters:
        if kept and kept[-1] == -letter:
            kept.pop()
        else:
            kept.append(letter)
    return tuple(kept)


def undone_letters(letters):
    """Return letters undone."""
    return tuple([-letter for letter in reversed(letters)])


def turned_letters(letters, by):
    """Return the plain row of letters turned by the row by."""
    return plain_letters(by + letters + undone_letters(by))

"""Polynomials: lists of the coefficients of N ** 0, N ** 1, .., the last one not 0; and their roots."""


def with_root(polynomial, root):
    """Return a polynomial times N - root."""
    found = [-root * factor for factor in polynomial] + [0]
    for at, factor in enumerate(polynomial):
        found[at + 1] += factor
    return found


def without_root(polynomial, root):
    """Return a polynomial divided by N - root, for a root of it."""
    found = []
    left = 0
    for factor in reversed(polynomial):
        left = left * root + factor
        found.append(left)
    # The last one is the value at the root, 0.
    return list(reversed(found[:-1]))


def value_at(polynomial, place):
    """Return the value of a polynomial at place."""
    found = 0
    for factor in reversed(polynomial):
        found = found * place + factor
    return found


def added(one, other):
    """Return the sum of two polynomials."""
    size = max(len(one), len(other))
    longer = [factors + [0] * (size - len(factors)) for factors in (one, other)]
    found = [first + second for first, second in zip(longer[0], longer[1])]
    while found and found[-1] == 0:
        found.pop()
    return found

"""What several tests share: wrong values, many rows, and plain ways to work things out afresh."""

import itertools
import random

from meankept.errors import BadRow


def nested(depth):
    """Return a list in a list, and so on, so many levels deep."""
    value = []
    for _ in range(depth - 1):
        value = [value]
    return value


def any_values():
    """Return values of all kinds of which none is a whole or a tuple."""
    return [True, False, None, "", "a", "1", [], [1], [1, 2], {}, {1: 2}, {"a": [(1,)]},
            nested(40), BadRow("x")]


NOT_DEEDS = any_values() + [0, 5, -1, -4, 10 ** 29, (), (2,)]
NOT_WHOLES = any_values() + [(), (1,), (1, 2)]


def not_rows(deeds):
    """Return values that are no rows of so many deeds."""
    return any_values() + [
        0, 1, -1, 10 ** 29, (0,), (1, 0), (deeds + 1,), (-deeds - 1,), (1, deeds + 1), (-10 ** 29,),
        (True,), (False,), (1, True), (True, 1), (1, -1, True), (None,), ("1",), ("a", 1),
        ((1,),), (1, (1,)), ([1],), (1, {}), [(1,)], (nested(39),),
        (1,) * 201, (1, -1) * 100 + (1,), (0,) * 200]


def not_times():
    """Return values that are no wholes from -20 to 20."""
    return NOT_WHOLES + [-21, 21, 10 ** 29, -10 ** 29]


def letters(deeds):
    """Return all letters of so many deeds."""
    return [x for x in range(-deeds, deeds + 1) if x != 0]


def all_rows(deeds, size):
    """Return all rows of at most so many letters, plain or not."""
    return [row for many in range(size + 1) for row in itertools.product(letters(deeds), repeat=many)]


def afresh(row):
    """Return the plain row, worked out as it is told: neighbours are taken out as long as there are any."""
    row = tuple(row)
    for at in range(len(row) - 1):
        if row[at] == -row[at + 1]:
            return afresh(row[:at] + row[at + 2:])
    return row


def is_plain(row):
    """Return whether no letter stands directly beside its undo."""
    return all(x != -y for x, y in zip(row, row[1:]))


def plain_rows(deeds, size):
    """Return all plain rows of at most so many letters."""
    return [row for row in all_rows(deeds, size) if is_plain(row)]


def back(row):
    """Return row read backward with each letter exchanged for its undo."""
    return tuple(-x for x in row[::-1])


def some_rows(deeds, many, size, seed):
    """Return so many rows of up to so many letters, always the same ones for one seed."""
    source = random.Random(seed)
    lots = letters(deeds)
    return [tuple(source.choice(lots) for _ in range(source.randint(0, size))) for _ in range(many)]


def check_first_wrong(test, function, right, wrong):
    """Check that of several wrong parameters the first one is told.

    right are parameters that fit, by name and in order; wrong tells for each name the error, and
    values that do not fit. Each wrong value is tried with the parameters ahead of it right and each
    choice of those behind it wrong.
    """
    names = list(right)
    test.assertEqual(set(names), set(wrong))
    function(**right)
    for at, name in enumerate(names):
        error, values = wrong[name]
        for value in values:
            for others in itertools.product([False, True], repeat=len(names) - at - 1):
                given = dict(right)
                given[name] = value
                for other, is_wrong in zip(names[at + 1:], others):
                    if is_wrong:
                        given[other] = wrong[other][1][0]
                for call in (lambda: function(**given), lambda: function(*given.values())):
                    with test.assertRaises(error) as caught:
                        call()
                    test.assertIs(type(caught.exception), error, (name, value))

"""What several tests share: wrong values, many rows, and plain ways to work things out afresh."""

import fractions
import functools
import itertools
import random

from meankept.errors import BadRow
from meankept.webs import free_list, is_over, rank, web_of, ways


def nested(depth):
    """Return a list in a list, and so on, so many levels deep."""
    value = []
    for _ in range(depth - 1):
        value = [value]
    return value


def any_values():
    """Return values of all kinds of which none is a whole or a tuple."""
    return [True, False, None, "", "a", "1", [], [1], [1, 2], {}, {1: 2}, {"a": [(1,)]},
            nested(40), BadRow("x")]


NOT_DEEDS = any_values() + [0, 5, -1, -4, 10 ** 29, (), (2,)]
NOT_WHOLES = any_values() + [(), (1,), (1, 2)]
NOT_PLACES = NOT_WHOLES + [0, -1, 1000001, 10 ** 29, -10 ** 29]


def not_rows(deeds):
    """Return values that are no rows of so many deeds."""
    return any_values() + [
        0, 1, -1, 10 ** 29, (0,), (1, 0), (deeds + 1,), (-deeds - 1,), (1, deeds + 1), (-10 ** 29,),
        (True,), (False,), (1, True), (True, 1), (1, -1, True), (None,), ("1",), ("a", 1),
        ((1,),), (1, (1,)), ([1],), (1, {}), [(1,)], (nested(39),),
        (1,) * 201, (1, -1) * 100 + (1,), (0,) * 200]


def not_times():
    """Return values that are no wholes from -20 to 20."""
    return NOT_WHOLES + [-21, 21, 10 ** 29, -10 ** 29]


def not_lists(deeds):
    """Return values that are no lists of at most 6 rows of so many deeds."""
    plain_wrong = [value for value in any_values() if value != []]
    return plain_wrong + [
        0, 1, -1, (1,), (1, 2), [1], [1, 2], "ab", {(1,): (1,)}, {(): ()}, [[1]], [[]], ([],), [None], [True],
        [(1,), (deeds + 1,)], [(-deeds - 1,)], [(0,)], [(1,), (1, True)], [(False,)], [(1,), 1], [((1,),)],
        [("a",)], ["a"], [(1,), None], [{}], [()] * 7, ((1,),) * 7, [(1,)] * 2000, [(1,) * 201],
        [(1,), (1, -1) * 100 + (1,)]]


def not_houses(deeds):
    """Return values that are no houses with so many deeds, 2 or more."""
    two = (0, 1)
    return any_values() + [
        0, 1, (), two, (two,) * (deeds + 1), (two,) * (deeds - 1), [two] * deeds, (list(two),) * deeds,
        ((),) * deeds, (two,) * (deeds - 1) + ((),), (two,) * (deeds - 1) + ((0, 1, 2),),
        (two,) * (deeds - 1) + ((0, 0),), (two,) * (deeds - 1) + ((0, 1, 1),), (two,) * (deeds - 1) + ((1, 2),), (two,) * (deeds - 1) + ((-1, 0),),
        ((False, True),) * deeds, (two,) * (deeds - 1) + ((0, True),), (two,) * (deeds - 1) + ((False, 1),),
        (two,) * (deeds - 1) + ([0, 1],), (two,) * (deeds - 1) + ("01",), (two,) * (deeds - 1) + (None,),
        (two,) * (deeds - 1) + ((0, None),), (two,) * (deeds - 1) + ((0, (1,)),), ((two,),) * deeds,
        (two,) * (deeds - 1) + ({0: 0, 1: 1},), (tuple(range(61)),) * deeds, (tuple(range(1, 61)),) * deeds,
        (tuple(range(59)) + (10 ** 29,),) * deeds]


def not_in(places):
    """Return values that are none of so many places."""
    return NOT_WHOLES + [-1, places, places + 1, 10 ** 29, -10 ** 29]


def not_webs():
    """Return values that are no webs, most of them of two deeds and nearly webs."""
    whole = ((0, 1, 0), (0, 2, 0))
    return any_values() + [
        0, 1, (), (2,), (2, 1), (2, 1, whole, ()), [2, 1, whole], (2, 1, list(whole)), (2, 1, ([0, 1, 0],)),
        (2, 1, {(0, 1, 0): 1}), (2, 1, "010"), (2, 1, None), (2, 1, (0, 1, 0)), (2, 1, ((0, 1),)),
        (2, 1, ((0, 1, 0, 0),)), (2, 1, ("010",)), (2, 1, (None,)), (2, 1, (((0, 1, 0),),)),
        (0, 1, ()), (5, 1, ()), (-1, 1, ()), (True, 1, ()), (False, 1, ()), (None, 1, ()), ("2", 1, ()),
        ((2,), 1, ()), (2, 0, ()), (2, -1, ()), (2, True, ()), (2, True, whole), (2, None, ()), (2, "1", ()),
        (2, (1,), ()), (2, 2, ()), (2, 10 ** 29, ()), (2, 10 ** 29, whole), (10 ** 29, 1, ()),
        # Wrong ties.
        (1, 1, whole), (2, 1, ((0, 3, 0),)), (2, 1, ((0, 0, 0),)), (2, 1, ((0, -1, 0),)), (2, 1, ((0, 1, 1),)),
        (2, 1, ((1, 1, 0),)), (2, 1, ((-1, 1, 0),)), (2, 1, ((0, 1, -1),)), (2, 1, ((False, 1, 0),)),
        (2, 1, ((0, True, 0),)), (2, 1, ((0, 1, False),)), (2, 2, ((0, 1, True), (1, 1, 0))),
        (2, 1, ((0, None, 0),)), (2, 1, ((0, "1", 0),)), (2, 1, ((0, (1,), 0),)), (2, 1, ((0, 1, [0]),)),
        # Not ascending, or not unlike.
        (2, 1, ((0, 2, 0), (0, 1, 0))), (2, 1, ((0, 1, 0), (0, 1, 0))), (2, 2, ((1, 1, 0), (0, 1, 1))),
        # Not folded: two ties from one place, two ties to one place.
        (2, 2, ((0, 1, 0), (0, 1, 1), (1, 2, 1))), (2, 2, ((0, 1, 1), (1, 1, 1))),
        (2, 2, ((0, 1, 1), (0, 2, 1), (1, 1, 1))),
        # A place that cannot be reached, with ends and without any.
        (2, 2, whole), (2, 2, whole + ((1, 1, 1),)), (2, 3, ((0, 1, 0), (1, 1, 2), (1, 2, 2), (2, 1, 1))),
        # A place with one end of a tie.
        (2, 2, ((0, 1, 1),)), (2, 2, ((0, 1, 1), (0, 2, 0))), (2, 3, ((0, 1, 1), (1, 1, 2), (1, 2, 1))),
        (2, 2, ((1, 1, 0),)), (1, 2, ((0, 1, 1),)),
        # Not numbered: as if another place were met first, or other letters were tried first.
        (2, 3, ((0, 1, 2), (0, 2, 1), (1, 1, 0), (2, 2, 0))), (2, 3, ((0, 1, 2), (1, 1, 0), (2, 1, 1))),
        (2, 3, ((0, 2, 1), (1, 2, 0), (2, 1, 0), (2, 2, 2))), (1, 3, ((0, 1, 2), (1, 1, 0), (2, 1, 1)))]


def letters(deeds):
    """Return all letters of so many deeds."""
    return [x for x in range(-deeds, deeds + 1) if x != 0]


def all_rows(deeds, size):
    """Return all rows of at most so many letters, plain or not."""
    return [row for many in range(size + 1) for row in itertools.product(letters(deeds), repeat=many)]


def afresh(row):
    """Return the plain row, worked out as it is told: neighbours are taken out as long as there are any."""
    row = tuple(row)
    for at in range(len(row) - 1):
        if row[at] == -row[at + 1]:
            return afresh(row[:at] + row[at + 2:])
    return row


def is_plain(row):
    """Return whether no letter stands directly beside its undo."""
    return all(x != -y for x, y in zip(row, row[1:]))


def plain_rows(deeds, size):
    """Return all plain rows of at most so many letters."""
    return [row for row in all_rows(deeds, size) if is_plain(row)]


def back(row):
    """Return row read backward with each letter exchanged for its undo."""
    return tuple(-x for x in row[::-1])


def some_rows(deeds, many, size, seed):
    """Return so many rows of up to so many letters, always the same ones for one seed."""
    source = random.Random(seed)
    lots = letters(deeds)
    return [tuple(source.choice(lots) for _ in range(source.randint(0, size))) for _ in range(many)]


def check_first_wrong(test, function, right, wrong):
    """Check that of several wrong parameters the first one is told.

    right are parameters that fit, by name and in order; wrong tells for each name the error, and
    values that do not fit. Each wrong value is tried with the parameters ahead of it right and each
    choice of those behind it wrong.
    """
    names = list(right)
    test.assertEqual(set(names), set(wrong))
    function(**right)
    for at, name in enumerate(names):
        error, values = wrong[name]
        for value in values:
            for others in itertools.product([False, True], repeat=len(names) - at - 1):
                given = dict(right)
                given[name] = value
                for other, is_wrong in zip(names[at + 1:], others):
                    if is_wrong:
                        given[other] = wrong[other][1][0]
                for call in (lambda: function(**given), lambda: function(*given.values())):
                    with test.assertRaises(error) as caught:
                        call()
                    test.assertIs(type(caught.exception), error, (name, value))


def step(house, letter, place):
    """Return the place to which a letter leads a place of a house."""
    if letter > 0:
        return house[letter - 1][place]
    return house[-letter - 1].index(place)


def lead(house, row, place):
    """Return the place to which a row leads a place of a house, letter by letter."""
    for letter in row:
        place = step(house, letter, place)
    return place


def houses_of(deeds, places):
    """Return all houses of so many places."""
    return list(itertools.product(itertools.permutations(range(places)), repeat=deeds))


def follow(web, row, place=0):
    """Return the place to which a row is read from a place of a web, None if it cannot be read."""
    ties = web[2]
    for letter in row:
        if letter > 0:
            goals = [goal for start, deed, goal in ties if (start, deed) == (place, letter)]
        else:
            goals = [start for start, deed, goal in ties if (goal, deed) == (place, -letter)]
        if not goals:
            return None
        (place,) = goals
    return place


def tell(rows, spelling):
    """Return the plain row that a spelling for rows tells."""
    found = []
    for number in spelling:
        for letter in rows[number - 1] if number > 0 else back(rows[-number - 1]):
            if found and found[-1] == -letter:
                found.pop()
            else:
                found.append(letter)
    return tuple(found)


def is_plain_spelling(rows, spelling):
    """Return whether a value is a plain spelling for rows."""
    if type(spelling) is not tuple or not all(type(number) is int for number in spelling):
        return False
    return all(1 <= abs(number) <= len(rows) for number in spelling) and is_plain(spelling)


def some_lists(many, size, seed):
    """Return so many pairs (deeds, rows), rows of up to so many letters, often with much in common."""
    source = random.Random(seed)
    found = []
    for _ in range(many):
        deeds = source.randint(1, 4)
        lots = letters(deeds)
        parts = [tuple(source.choice(lots) for _ in range(source.randint(0, size)))
                 for _ in range(source.randint(1, 5))]
        rows = []
        for _ in range(source.randint(0, 6)):
            row = ()
            for _ in range(source.randint(0, 3)):
                part = source.choice(parts)
                longer = afresh(row + (part if source.random() < 0.6 else back(part)))
                row = longer if len(longer) <= 2 * size else row
            rows.append(row)
        found.append((deeds, rows))
    return found


def turned(row, by):
    """Return row turned by the row by."""
    return tell([by, row], (1, 2, -1))


def naive_ring(row):
    """Return the ring of a row, as it is told."""
    left = tell([row], (1,))
    while len(left) >= 2 and left[0] == -left[-1]:
        left = left[1:-1]
    return min([left[k:] + left[:k] for k in range(len(left))], default=())


def naive_rings(rows):
    """Return the tuple of the rings of rows."""
    return tuple(naive_ring(row) for row in rows)


def size(rows):
    """Return how many letters rows have together."""
    return sum(len(row) for row in rows)


def same(deeds):
    """Return the renaming that leaves each row."""
    return tuple((deed,) for deed in range(1, deeds + 1))


def in_turn(first, second):
    """Return the renaming that does what first does and then second."""
    return tuple(tell(second, image) for image in first)


def naive_moves(deeds):
    """Return the ascending list of all moves of so many deeds."""
    found = []
    for letter in letters(deeds):
        others = [other for other in letters(deeds) if abs(other) != abs(letter)]
        for many in range(1, len(others) + 1):
            found += [(letter, lot) for lot in itertools.combinations(others, many)]
    return sorted(found)


def move_of(deeds, move):
    """Return the renaming of a move, as it is told."""
    letter, lot = move
    images = []
    for deed in range(1, deeds + 1):
        image = (deed,)
        if deed in lot:
            image = image + (letter,)
        if -deed in lot:
            image = (-letter,) + image
        images.append(image)
    return tuple(images)


def exchanges(deeds):
    """Return all exchanges of so many deeds."""
    return [tuple((sign * deed,) for sign, deed in zip(signs, order))
            for order in itertools.permutations(range(1, deeds + 1))
            for signs in itertools.product([1, -1], repeat=deeds)]


def drawn_renaming(source, deeds, most):
    """Return a drawn renaming whose images have at most so many letters together."""
    images = source.choice(exchanges(deeds))
    for _ in range(source.randint(0, 12) if deeds > 1 else 0):
        move = source.choice(naive_moves(deeds))
        longer = in_turn(images, move_of(deeds, move))
        images = longer if size(longer) <= most else images
    return images


def some_renamings(many, most, seed):
    """Return so many pairs (deeds, renaming), images of at most so many letters together."""
    source = random.Random(seed)
    found = []
    for _ in range(many):
        deeds = source.randint(1, 4)
        found.append((deeds, drawn_renaming(source, deeds, most)))
    return found


def not_renamings():
    """Return values that are no renamings of two deeds, most of them nearly."""
    return any_values() + [
        0, 1, (), (1, 2), ((1,),), ((1,), (2,), ()), ((1,), (2,), (1,)), [(1,), (2,)], ((1,), [2]), ([1], (2,)),
        ((1,), 2), ((1,), "2"), ((1,), None), ((1,), {2: 2}), ((1,), (2,), None), ((True,), (2,)),
        ((1,), (2, True)), ((1,), (2, 0)), ((1,), (3,)), ((1,), (-3,)), ((1,), (2, None)), ((1,), ((2,),)),
        # Not plain.
        ((1,), (2, 1, -1)), ((1, -1, 1), (2,)), ((1,), (1, -1, 2)), ((2, -2, 1), (1, -1, 2)),
        # They do not make every row.
        ((), ()), ((1,), ()), ((), (2,)), ((1,), (1,)), ((1,), (-1,)), ((1, 1), (2,)), ((1,), (2, 2)),
        ((1, 2), (2, 1)), ((1, 2), (1, -2)), ((1, 2, -1, -2), (2,)), ((1, 1, 2), (2, 1, 1)), ((1, 2), (-2, -1)),
        ((1, 1, 2), (1, 2, 2)), ((2,), (1, 2, -1))]


def not_moves():
    """Return values that are no moves of two deeds, most of them nearly."""
    return any_values() + [
        0, 1, (), (1,), (1, 2), (1, (2,), ()), [1, (2,)], (1, [2]), (1, ()), (1, 2), (1, "2"), (1, None),
        (1, {2: 2}), (0, (2,)), (3, (2,)), (-3, (2,)), (True, (2,)), ("1", (2,)), (None, (2,)), ((1,), (2,)),
        ((2,), 1), (1, (True,)), (1, (2, True)), (2, (True,)), (1, (0,)), (1, (-2, 0, 2)), (1, (3,)), (1, (-3,)),
        (1, (2, 3)), (1, ((2,),)), (1, (None,)), (1, ("2",)),
        # Not ascending, or not unlike.
        (1, (2, -2)), (1, (2, 2)), (1, (-2, -2)), (1, (-2, 2, 2)),
        # With the letter or its undo.
        (1, (1,)), (1, (-1,)), (1, (1, 2)), (1, (-1, 2)), (1, (-2, 1)), (-1, (-1,)), (-1, (1,)), (2, (-2,)),
        (2, (1, 2)), (2, (-2, -1)), (10 ** 29, (2,)), (1, (10 ** 29,))]


def not_chains():
    """Return values that are no chains of moves of two deeds."""
    wrong = [value for value in any_values() if value != []]
    wrong += [0, 1, (1, (2,)), "ab", {(1, (2,)): 1}, {}]
    return wrong + [[value] for value in not_moves()] + [((1, (2,)), value) for value in not_moves()]


def few_lists(many, long, seed):
    """Return so many pairs (deeds, rows) of one to four rows, often made long by moves."""
    source = random.Random(seed)
    found = []
    for _ in range(many):
        deeds = source.randint(1, 4)
        rows = [tuple(source.choice(letters(deeds)) for _ in range(source.choice([0, 1, 1, 2, 3, 4, 6])))
                for _ in range(source.randint(1, 4))]
        for _ in range(source.randint(0, 8) if deeds > 1 else 0):
            images = move_of(deeds, source.choice(naive_moves(deeds)))
            longer = [tell(images, row) for row in rows]
            rows = longer if all(len(row) <= long for row in longer) else rows
        found.append((deeds, rows))
    return found


def not_few_lists(deeds):
    """Return values that are no lists of one to four rows of so many deeds."""
    return not_lists(deeds) + [[], (), [()] * 5, ((1,),) * 5, [(1,)] * 6]


def number_naively(deeds, ties):
    """Return the web of a lot of ties whose places are any values, numbered from the place "first" on.

    A tie is a triple (place, deed, place).
    """
    leads = {}
    for start, deed, end in ties:
        leads[(start, deed)] = end
        leads[(end, -deed)] = start
    order = ["first"]
    for place in order:
        for letter in [sign * deed for deed in range(1, deeds + 1) for sign in (1, -1)]:
            goal = leads.get((place, letter), place)
            if goal not in order:
                order.append(goal)
    told = {(order.index(start), deed, order.index(end)) for start, deed, end in ties}
    return (deeds, len(order), tuple(sorted(told)))


def lots_web(web, lot_of):
    """Return the web of the lots in which the places of a web lie, told by the least place of each."""
    deeds, _, ties = web
    now = {place: "first" if lot == lot_of[0] else lot for place, lot in enumerate(lot_of)}
    return number_naively(deeds, {(now[start], deed, now[end]) for start, deed, end in ties})


def is_sound(web, lot_of):
    """Return whether for all ties (p, x, q), (r, x, s) p and r lie in one lot exactly if q and s do."""
    ties = web[2]
    return all((lot_of[p] == lot_of[r]) == (lot_of[q] == lot_of[s])
               for (p, x, q), (r, y, s) in itertools.combinations(ties, 2) if x == y)


def partings(many):
    """Return all manners to part so many places into lots, each told by the lot of each place."""
    found = [()]
    for place in range(many):
        found = [lots + (lot,) for lots in found for lot in sorted(set(lots) | {place})]
    return found


def naive_pictures(web):
    """Return the ascending list of the pictures of a web, by all manners to part its places."""
    found = [lots_web(web, lots) for lots in partings(web[1]) if is_sound(web, lots)]
    assert len(found) == len(set(found))
    return sorted(found)


def join_naively(web, pairs):
    """Return the web that comes of joining pairs of places of a web, and the lot of each place."""
    lot_of = list(range(web[1]))

    def join(one, other):
        low, high = sorted([lot_of[one], lot_of[other]])
        lot_of[:] = [low if lot == high else lot for lot in lot_of]

    for one, other in pairs:
        join(one, other)
    while not is_sound(web, lot_of):
        for (p, x, q), (r, y, s) in itertools.combinations(web[2], 2):
            if x == y and lot_of[p] == lot_of[r]:
                join(q, s)
            if x == y and lot_of[q] == lot_of[s]:
                join(p, r)
    return lots_web(web, lot_of), lot_of


def some_webs(many, most, seed):
    """Return so many webs of at most so many places, of rows with much in common."""
    found = []
    for deeds, rows in some_lists(4 * many, 4, seed):
        if len(found) < many and rows:
            web = web_of(deeds, rows)
            if web[1] <= most:
                found.append(web)
    return found


def kept_counts(deeds, rows, places):
    """Return the list of how many places rows keep, for each house of so many places."""
    return [sum(all(lead(house, row, place) == place for row in rows) for place in range(places))
            for house in houses_of(deeds, places)]


def worth(value):
    """Return what a number is worth."""
    return fractions.Fraction(value) if isinstance(value, int) else fractions.Fraction(*value)


def whole(deeds):
    """Return the web with one place and a tie of each deed."""
    return (deeds, 1, tuple((0, deed, 0) for deed in range(1, deeds + 1)))


def over_one_another(many, most, seed):
    """Return pairs of webs of which the second one is over the first one, of at most so many places."""
    found = []
    source = random.Random(seed)
    for deeds, rows in some_lists(many, 4, seed):
        outer = web_of(deeds, rows)
        free = free_list(outer)
        inner = outer
        if free:
            spelled = [tuple(source.choice([-1, 1]) * source.randint(1, len(free))
                             for _ in range(source.randint(0, 4))) for _ in range(source.randint(0, len(free)))]
            inner = web_of(deeds, [tell(free, spelling) for spelling in spelled][:6])
        for web in (outer, whole(deeds), web_of(deeds, rows[:-1])):
            if inner[1] <= most and is_over(web, inner):
                found.append((inner, web))
            if outer[1] <= most and is_over(web, outer):
                found.append((outer, web))
    return found


def is_reached(inner, goal, many):
    """Return whether so many pairs of places of inner, or fewer, join it to goal."""
    pairs = list(itertools.combinations(range(inner[1]), 2))
    return any(join_naively(inner, some)[0] == goal
               for k in range(many + 1) for some in itertools.combinations(pairs, k))


def part_by_ties(inner, outer, given):
    """Return the web of the ties of outer that the ties of inner are given."""
    now = ["first"] + list(range(1, outer[1]))
    return number_naively(outer[0], {(now[given[p]], x, now[given[q]]) for p, x, q in inner[2]})


@functools.lru_cache(maxsize=None)
def is_free_naively(inner, outer):
    """Return whether inner is free in outer, which is over it, by trying all joinings of so many pairs."""
    goal = part_by_ties(inner, outer, [follow(outer, way) for way in ways(inner)])
    return is_reached(inner, goal, rank(goal) - rank(inner))


def without_ends(ties, first):
    """Return a lot of ties without those at places, but first, that have one end, again and again."""
    ties = set(ties)
    while True:
        ends = [end for start, _, goal in ties for end in (start, goal)]
        left = {(start, deed, goal) for start, deed, goal in ties
                if all(end == first or ends.count(end) > 1 for end in (start, goal))}
        if left == ties:
            return ties
        ties = left


def hanging(ties, first):
    """Return the ties that hang together with the place first."""
    met, left = {first}, set(ties)
    while True:
        more = {tie for tie in left if tie[0] in met or tie[2] in met}
        if not more:
            return {tie for tie in ties if tie[0] in met}
        met |= {end for start, _, goal in more for end in (start, goal)}
        left -= more


def web_by_ties(deeds, ties, first):
    """Return the web of the rows that are read along ties, of any places, from the place first to it."""
    left = without_ends(hanging(ties, first), first)
    return number_naively(deeds, {("first" if start == first else start, deed, "first" if goal == first else goal)
                                  for start, deed, goal in left})


def pair_ties(one, other):
    """Return the ties of all pairs of places of two webs."""
    return {((p, r), x, (q, s)) for p, x, q in one[2] for r, y, s in other[2] if x == y}


def turn_naively(web, row):
    """Return the web of all rows that web makes, turned by row."""
    ties = set(web[2])
    place = 0
    for at, letter in enumerate(back(afresh(row))):
        goals = [goal for start, deed, goal in ties if (start, deed) == (place, letter)]
        goals += [start for start, deed, goal in ties if (goal, deed) == (place, -letter)]
        goal = goals[0] if goals else f"new {at}"
        ties.add((place, letter, goal) if letter > 0 else (goal, -letter, place))
        place = goal
    return web_by_ties(web[0], ties, place)


def not_names():
    """Return values that are no names of kept rows."""
    return [value for value in any_values() if value != "a"] + [
        0, 1, (), ("x",), ["x"], "", "a" * 13, "abcdefghijklm", "A", "aB", "a1", "a b", " a", "a ", "a-b", "a_b",
        "\u00e4", "x\u00e9", "a\n", "\u0430", "a.", "z{", "`a", "1"]


def drawn_act(source, deeds, names):
    """Return a drawn act of a live house, often one that does not fit."""
    word = source.choice(["keep", "keep", "keep", "drop", "turn", "turn", "rename", "move", "move"])
    name = source.choice(names)
    row = tuple(source.choice(letters(deeds)) for _ in range(source.choice([0, 1, 2, 3, 5, 9])))
    if source.random() < 0.04:
        row = tuple(source.choice(letters(deeds)) for _ in range(source.randint(90, 200)))
    if source.random() < 0.06:
        name, row = source.choice([("", row), ("A", row), (None, row), (name, (0,)), (name, [1]), (name, None)])
    if word in ("keep", "turn"):
        return (word, name, row)
    if word == "drop":
        return (word, name)
    if word == "rename":
        images = drawn_renaming(source, deeds, 12)
        return (word, source.choice([images, images, images, images + ((1,),), ((1, 1),) * deeds, None]))
    lot = naive_moves(deeds) + [(1, ()), (0, (1,)), None]
    return (word, source.choice(lot))


class Model:
    """What a live house of rows does, worked out afresh from all its acts each time it is asked."""

    def __init__(self, deeds):
        self.deeds = deeds
        self.acts = []
        self.taken_back = []

    def behind(self, acts):
        """Return the dict of the rows and the renaming so far behind acts."""
        rows, images = {}, same(self.deeds)
        for act in acts:
            if act[0] == "keep":
                rows[act[1]] = act[2]
            elif act[0] == "drop":
                del rows[act[1]]
            elif act[0] == "turn":
                rows[act[1]] = turned(rows[act[1]], act[2])
            else:
                its = act[1] if act[0] == "rename" else move_of(self.deeds, act[1])
                rows = {name: tell(its, row) for name, row in rows.items()}
                images = in_turn(images, its)
        return rows, images

    def state(self):
        """Return the dict of the kept rows and the renaming so far."""
        return self.behind(self.acts)

    def is_name(self, name):
        """Return whether a value is a name."""
        return isinstance(name, str) and 1 <= len(name) <= 12 and all("a" <= letter <= "z" for letter in name)

    def is_row(self, row):
        """Return whether a value is a row."""
        return isinstance(row, tuple) and len(row) <= 200 and all(
            type(letter) is int and 1 <= abs(letter) <= self.deeds for letter in row)

    def error_of(self, act):
        """Return the name of the error that an act raises, and the most that it tells; None if it raises none."""
        rows, images = self.state()
        if act[0] in ("keep", "drop", "turn"):
            if not self.is_name(act[1]):
                return ("BadName", None)
            if act[0] != "keep" and act[1] not in rows:
                return ("NoName", None)
            if act[0] != "drop" and not self.is_row(act[2]):
                return ("BadRow", None)
            if act[0] == "keep" and act[1] not in rows and len(rows) >= 20:
                return ("TooMany", 20)
            if act[0] == "turn" and len(turned(rows[act[1]], act[2])) > 200:
                return ("TooMany", 200)
            return None
        if act[0] == "move" and act[1] not in naive_moves(self.deeds):
            return ("BadMove", None)
        its = act[1] if act[0] == "rename" else move_of(self.deeds, act[1])
        if its is None or len(its) != self.deeds or web_of(self.deeds, its) != whole(self.deeds):
            return ("BadRenaming", None)
        if size(in_turn(images, its)) > 2000:
            return ("TooMany", 2000)
        if any(len(tell(its, row)) > 200 for row in rows.values()):
            return ("TooMany", 200)
        return None

    def do(self, act):
        """Do an act that raises no error."""
        row = (afresh(act[2]),) if len(act) > 2 else ()
        self.acts.append(act[:2] + row)
        self.taken_back = []

    def undo(self):
        """Take the newest act back; return whether there was one."""
        if self.acts:
            self.taken_back.append(self.acts.pop())
            return True
        return False

    def redo(self):
        """Do again what was taken back last; return whether there was any."""
        if self.taken_back:
            self.acts.append(self.taken_back.pop())
            return True
        return False

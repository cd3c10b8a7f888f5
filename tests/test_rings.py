"""Points 7, 14 and 15: rings, what turns rows into one another, roots, rows that commute."""

import itertools
import math
import unittest

from meankept.errors import BadDeeds, BadRow
from meankept.rings import meet_power, ring_of, root, turner
from meankept.rows import beside, is_row, plain, sums, times_row, undone
from tests.helpers import (NOT_DEEDS, afresh, all_rows, back, check_first_wrong, is_plain, letters, naive_ring,
                           not_rows, plain_rows, some_rows, turned)

LONG = (1, 2) * 100


def naive_times(row, many):
    """Return many times the row."""
    return afresh((row if many > 0 else back(row)) * abs(many))


def table_of_times(deeds, size):
    """Return for each plain row of so many letters the row of which it is most times, and how many."""
    table = {(): ((), 0)}
    for many in range(1, size + 1):
        for base in plain_rows(deeds, size):
            if base != ():
                table[naive_times(base, many)] = (base, many)
    return table


def lots_of_turned(deeds, size):
    """Return a dict from the plain rows of so many letters to a number of all that turn into it.

    Rows are brought together by turning them by single letters only, without the program.
    """
    lot_of = {}
    for start in plain_rows(deeds, size):
        if start in lot_of:
            continue
        lot_of[start] = start
        waiting = [start]
        while waiting:
            row = waiting.pop()
            for letter in letters(deeds):
                other = turned(row, (letter,))
                if len(other) <= size and other not in lot_of:
                    lot_of[other] = start
                    waiting.append(other)
    return lot_of


def commutator(one, other):
    """Return the product of one, other, one undone and other undone."""
    return afresh(one + other + back(one) + back(other))


class WrongValuesTest(unittest.TestCase):
    def test_one_row(self):
        for function in (ring_of, root):
            check_first_wrong(self, function, {"deeds": 2, "row": (1, 2)},
                              {"deeds": (BadDeeds, NOT_DEEDS), "row": (BadRow, not_rows(2))})

    def test_two_rows(self):
        for function in (turner, meet_power):
            check_first_wrong(self, function, {"deeds": 2, "one": (1, 2), "other": (2,)},
                              {"deeds": (BadDeeds, NOT_DEEDS), "one": (BadRow, not_rows(2)),
                               "other": (BadRow, not_rows(2))})

    def test_letters_of_more_deeds(self):
        for deeds in (1, 2, 3, 4):
            for letter in (deeds + 1, -deeds - 1):
                for call in (lambda: ring_of(deeds, (letter,)), lambda: root(deeds, (letter,)),
                             lambda: turner(deeds, (letter,), (1,)), lambda: turner(deeds, (1,), (letter,)),
                             lambda: meet_power(deeds, (letter,), (1,)),
                             lambda: meet_power(deeds, (1,), (1, letter))):
                    with self.assertRaises(BadRow):
                        call()

    def test_length(self):
        ring_of(2, LONG)
        root(2, LONG)
        for row in (LONG + (1,), (1, -1) * 100 + (1,)):
            for call in (lambda: ring_of(2, row), lambda: root(2, row), lambda: turner(2, row, ()),
                         lambda: turner(2, (), row), lambda: meet_power(2, row, ()),
                         lambda: meet_power(2, (), row)):
                with self.assertRaises(BadRow):
                    call()

    def test_by_name_in_any_sequence(self):
        self.assertEqual(ring_of(row=(2, 1), deeds=2), (1, 2))
        self.assertEqual(root(row=(1, 1), deeds=1), ((1,), 2))
        self.assertEqual(turner(other=(2,), one=(1,), deeds=2), ("unlike", (1,), (2,)))
        self.assertEqual(meet_power(other=(-1,), one=(1, 1), deeds=1), ("powers", (1,), 2, -1))


class RingTest(unittest.TestCase):
    def test_examples_by_hand(self):
        self.assertEqual(ring_of(2, (2, 1, 1, -2)), (1, 1))
        self.assertEqual(ring_of(2, (1, 2, -1)), (2,))

    def test_some(self):
        for row, right in (((), ()), ((1, -1), ()), ((2,), (2,)), ((-2,), (-2,)), ((2, 1), (1, 2)),
                           ((1, -2), (-2, 1)), ((1, 2, -1, -2), (-2, 1, 2, -1)),
                           ((2, -2, 1), (1,)), ((1, 2, 1, 1), (1, 1, 1, 2)),
                           ((2, 1, 2, 1), (1, 2, 1, 2)), ((1, 1, 2, -1), (1, 2)),
                           ((1, 2, -2, 2, -1), (2,)), ((-1, 1, 2, -1), (-1, 2))):
            self.assertEqual(ring_of(2, row), right, row)

    def test_all_short_rows(self):
        for deeds, size in ((1, 7), (2, 6), (3, 4), (4, 3)):
            for row in all_rows(deeds, size):
                found = ring_of(deeds, row)
                self.assertIs(type(found), tuple)
                self.assertEqual(found, naive_ring(row), row)

    def test_long_rows(self):
        rows = some_rows(2, 60, 200, "rings") + some_rows(1, 20, 200, "one") + some_rows(4, 60, 200, "four")
        for row in rows + [LONG, LONG[1:], (1,) * 200, (2, 1) * 100, (1,) * 99 + (2,) + (1,) * 100]:
            self.assertEqual(ring_of(4, row), naive_ring(row))

    def test_many_times_a_short_row(self):
        for row in plain_rows(2, 4):
            for many in (2, 3, 5):
                for by in ((), (1, 2), (-2, 1)):
                    whole = turned(row * many, by)
                    self.assertEqual(ring_of(2, whole), naive_ring(whole))

    def test_two_rows_have_one_ring_exactly_if_one_is_the_other_turned(self):
        for deeds, size in ((1, 6), (2, 5), (3, 3)):
            lot_of = lots_of_turned(deeds, size)
            ring_of_lot = {}
            for row, lot in lot_of.items():
                self.assertEqual(ring_of_lot.setdefault(lot, ring_of(deeds, row)), ring_of(deeds, row))
            self.assertEqual(len(set(ring_of_lot.values())), len(ring_of_lot))

    def test_the_ring_is_its_own_ring(self):
        for row in some_rows(3, 100, 30, "own"):
            found = ring_of(3, row)
            self.assertEqual(ring_of(3, found), found)
            self.assertTrue(is_plain(found + found[:1]))


class TurnerTest(unittest.TestCase):
    def check_turner(self, deeds, one, other):
        found = turner(deeds, one, other)
        self.assertIs(type(found), tuple)
        if naive_ring(one) == naive_ring(other):
            word, by = found
            self.assertEqual(word, "turned")
            self.assertIs(type(by), tuple)
            self.assertTrue(all(type(x) is int and x in letters(deeds) for x in by))
            self.assertTrue(is_plain(by))
            self.assertEqual(turned(one, by), afresh(other), (one, other))
        else:
            self.assertEqual(found, ("unlike", naive_ring(one), naive_ring(other)))

    def test_examples_by_hand(self):
        self.assertIn(turner(2, (1, 2), (2, 1)), [("turned", (2,)), ("turned", (-1,))])
        self.check_turner(2, (1, 2), (2, 1))
        self.assertEqual(turner(2, (1,), (-1,)), ("unlike", (1,), (-1,)))

    def test_nothing(self):
        for one, other in (((), ()), ((1, -1), ()), ((), (2, -2))):
            self.check_turner(2, one, other)
            self.assertEqual(turner(2, one, other)[0], "turned")
        self.assertEqual(turner(2, (), (1,)), ("unlike", (), (1,)))
        self.assertEqual(turner(2, (2, 1), ()), ("unlike", (1, 2), ()))

    def test_all_short_pairs(self):
        rows = plain_rows(2, 4)
        for one, other in itertools.product(rows, rows):
            self.check_turner(2, one, other)

    def test_rows_that_are_not_plain(self):
        rows = all_rows(2, 3)
        for one, other in itertools.product(rows, rows):
            self.check_turner(2, one, other)

    def test_turned_exactly_if_turning_leads_there(self):
        lot_of = lots_of_turned(2, 4)
        for one, other in itertools.product(lot_of, lot_of):
            self.assertEqual(turner(2, one, other)[0] == "turned", lot_of[one] == lot_of[other])

    def test_one_deed(self):
        for one, other in itertools.product(all_rows(1, 4), all_rows(1, 4)):
            self.check_turner(1, one, other)

    def test_turned_rows(self):
        for row, by in zip(some_rows(3, 300, 12, "row"), some_rows(3, 300, 12, "by")):
            other = turned(row, by)
            self.assertEqual(turner(3, row, other)[0], "turned")
            self.check_turner(3, row, other)
            self.check_turner(3, other, row)

    def test_turned_by_far(self):
        # Only times of the letter 2 commute with it, so each row that turns one into other is way,
        # so many times (2,), and far undone: 198 letters or more.
        far = (1, 2) * 49 + (1,)
        way = (-1, 2) * 49 + (-1,)
        one = far + (2,) + back(far)
        other = way + (2,) + back(way)
        self.assertEqual((len(one), len(other)), (199, 199))
        self.check_turner(2, one, other)
        word, by = turner(2, one, other)
        self.assertEqual(word, "turned")
        self.assertGreaterEqual(len(by), 198)
        ring = (1, 2, 2) * 60
        self.check_turner(2, ring, ring[90:] + ring[:90])
        self.check_turner(2, turned(ring, (2, 1)), turned(ring[91:] + ring[:91], (-1, -2)))

    def test_unlike_rings_of_equal_length_and_sums(self):
        one, other = (1, 1, 2, 2), (1, 2, 1, 2)
        self.assertEqual(sums(2, one), sums(2, other))
        self.assertEqual(turner(2, one, other), ("unlike", one, other))
        self.assertEqual(turner(2, (2, 2, 1, 1), (2, 1, 2, 1)), ("unlike", one, other))


class RootTest(unittest.TestCase):
    def check_root(self, deeds, row, right):
        found = root(deeds, row)
        self.assertIs(type(found), tuple)
        self.assertIs(type(found[0]), tuple)
        self.assertIs(type(found[1]), int)
        self.assertEqual(found, right, row)

    def test_examples_by_hand(self):
        self.check_root(2, (2, 1, 1, -2), ((2, 1, -2), 2))

    def test_some(self):
        for row, right in (((), ((), 0)), ((1, -1), ((), 0)), ((1,), ((1,), 1)), ((-1,), ((-1,), 1)),
                           ((-1, -1), ((-1,), 2)), ((1, 2), ((1, 2), 1)), ((2, 1, 2, 1), ((2, 1), 2)),
                           ((1, 2, -1, -2), ((1, 2, -1, -2), 1)), ((1, 2, 1), ((1, 2, 1), 1)),
                           ((1, 2, 2, 2, -1), ((1, 2, -1), 3)), ((1,) * 200, ((1,), 200)),
                           (LONG, ((1, 2), 100)), ((1, 1, 2) * 60, ((1, 1, 2), 60)),
                           ((1, 1, 1, 1, 1, 1), ((1,), 6)), ((1, 2, -2, 1), ((1,), 2)),
                           ((1, 2, 1, 1, 2, 1), ((1, 2, 1), 2)), ((1, 2, 1, 2, 1), ((1, 2, 1, 2, 1), 1))):
            self.check_root(2, row, right)

    def test_all_short_rows(self):
        for deeds, size in ((1, 7), (2, 6), (3, 4)):
            table = table_of_times(deeds, size)
            for row in plain_rows(deeds, size):
                self.check_root(deeds, row, table[row])

    def test_rows_that_are_not_plain(self):
        table = table_of_times(2, 5)
        for row in all_rows(2, 5):
            self.check_root(2, row, table[afresh(row)])

    def test_the_row_is_so_many_times_the_root(self):
        for row in some_rows(2, 200, 12, "so many") + some_rows(1, 20, 200, "one"):
            base, many = root(2, row)
            self.assertEqual(naive_times(base, many) if many else (), afresh(row))

    def test_turned_rows(self):
        for row, by in itertools.product(plain_rows(2, 4), plain_rows(2, 3)):
            base, many = root(2, row)
            self.check_root(2, turned(row, by), (turned(base, by), many))

    def test_rows_undone(self):
        for row in all_rows(2, 5) + some_rows(4, 100, 30, "undone"):
            base, many = root(4, row)
            self.check_root(4, back(row), (back(base), many))

    def test_the_root_of_a_root(self):
        for row in all_rows(2, 5):
            base, _ = root(2, row)
            self.check_root(2, base, (base, 1) if base else ((), 0))

    def test_many_times_a_row(self):
        for row in plain_rows(2, 4) + [(1, 2, 2, -1), (2, 1, 1, 1, -2)]:
            base, many = root(2, row)
            for times in (1, 2, 3, 7, 20):
                self.check_root(2, times_row(2, row, times), (base, times * many))

    def test_no_root_is_a_whole_times_another_one(self):
        self.check_root(2, (1, 2, 1, 2, -1), ((1, 2, 1, 2, -1), 1))
        self.check_root(2, (1, 2, 1, 2, -1, -2, -1), ((1, 2, 1, 2, -1, -2, -1), 1))


class MeetPowerTest(unittest.TestCase):
    def check_meet(self, one, other):
        found = meet_power(2, one, other)
        self.assertIs(type(found), tuple)
        if afresh(one + other) != afresh(other + one):
            self.assertEqual(found, ("apart", commutator(one, other)))
            self.assertNotEqual(found[1], ())
            return
        word, base, first, second = found
        self.assertEqual(word, "powers")
        self.assertIs(type(first), int)
        self.assertIs(type(second), int)
        if afresh(one) == ():
            self.assertEqual((base, second), root(2, other))
            self.assertEqual(first, 0)
        else:
            self.assertEqual((base, first), root(2, one))
        self.assertEqual(naive_times(base, first) if first else (), afresh(one))
        self.assertEqual(naive_times(base, second) if second else (), afresh(other))

    def test_examples_by_hand(self):
        self.assertEqual(meet_power(2, (1, 1), (-1, -1, -1)), ("powers", (1,), 2, -3))
        self.assertEqual(meet_power(2, (), (2, 2)), ("powers", (2,), 0, 2))
        self.assertEqual(meet_power(2, (1, 1), (2,)), ("apart", (1, 1, 2, -1, -1, -2)))

    def test_some(self):
        for one, other, right in (((), (), ("powers", (), 0, 0)), ((1, -1), (2, -2), ("powers", (), 0, 0)),
                                  ((1,), (), ("powers", (1,), 1, 0)), ((-1, -1), (), ("powers", (-1,), 2, 0)),
                                  ((), (-2,), ("powers", (-2,), 0, 1)), ((1,), (1,), ("powers", (1,), 1, 1)),
                                  ((1,), (-1,), ("powers", (1,), 1, -1)),
                                  ((-1, -1), (1,), ("powers", (-1,), 2, -1)),
                                  ((1, 2, 2, -1), (1, -2, -1), ("powers", (1, 2, -1), 2, -1)),
                                  ((1, 2), (2, 1), ("apart", (1, 2, 2, 1, -2, -1, -1, -2))),
                                  ((1,), (2,), ("apart", (1, 2, -1, -2))),
                                  ((1, 2), (1,), ("apart", (1, 2, 1, -2, -1, -1))),
                                  ((1, 2, -2), (1, 1, -1), ("powers", (1,), 1, 1))):
            self.assertEqual(meet_power(2, one, other), right, (one, other))

    def test_all_short_pairs(self):
        rows = plain_rows(2, 4)
        for one, other in itertools.product(rows, rows):
            self.check_meet(one, other)

    def test_rows_that_are_not_plain(self):
        rows = all_rows(2, 3)
        for one, other in itertools.product(rows, rows):
            self.check_meet(one, other)

    def test_times_of_one_row(self):
        for row in ((1,), (1, 2), (1, 2, -1), (2, 1, 1, -2), (1, 2, -1, -2)):
            for first, second in itertools.product(range(-4, 5), repeat=2):
                self.check_meet(times_row(2, row, first), times_row(2, row, second))
                word = meet_power(2, times_row(2, row, first), times_row(2, row, second))[0]
                self.assertEqual(word, "powers")

    def test_commute_exactly_if_all_are_so_many_times_one_row(self):
        table = table_of_times(2, 4)
        for one, other in itertools.product(plain_rows(2, 4), repeat=2):
            first, second = table[one][0], table[other][0]
            so = one == () or other == () or first in (second, back(second))
            self.assertEqual(meet_power(2, one, other)[0] == "powers", so, (one, other))

    def test_if_some_times_commute_then_the_rows_do(self):
        for one, other in itertools.product(plain_rows(2, 3), repeat=2):
            word = meet_power(2, one, other)[0]
            for first, second in ((2, 3), (-2, 1), (1, -3), (20, 20)):
                found = meet_power(2, times_row(2, one, first), times_row(2, other, second))
                self.assertEqual(found[0], word)

    def test_products_of_times_of_rows_that_do_not_commute_are_no_powers(self):
        for one, other in itertools.product(plain_rows(2, 3), repeat=2):
            if afresh(one + other) == afresh(other + one):
                continue
            for first, second in ((2, 2), (2, -3), (-3, 2), (-2, -2), (3, 4), (5, -5)):
                both = beside(2, times_row(2, one, first), times_row(2, other, second))
                base, many = root(2, both)
                self.assertEqual((base, many), (both, 1))

    def test_the_row_of_rows_apart_is_no_power(self):
        rows = plain_rows(2, 3) + some_rows(2, 30, 40, "apart")
        for one, other in itertools.product(rows, repeat=2):
            found = meet_power(2, one, other)
            if found[0] == "apart":
                self.assertNotEqual(found[1], ())
                self.assertEqual(ring_many(found[1]), 1)

    def test_longest_rows(self):
        self.assertEqual(meet_power(2, LONG, LONG), ("powers", (1, 2), 100, 100))
        self.assertEqual(meet_power(2, LONG, back(LONG)), ("powers", (1, 2), 100, -100))
        self.check_meet(LONG, (2, 1) * 100)
        self.assertEqual(len(meet_power(2, LONG, (2, 1) * 100)[1]), 800)

    def test_greatest_common_times(self):
        for first, second in itertools.product(range(1, 7), repeat=2):
            one, other = times_row(2, (1, 2), first), times_row(2, (1, 2), second)
            _, base, _, _ = meet_power(2, one, other)
            self.assertEqual(base, (1, 2))
            self.assertEqual(len(base) * math.gcd(first, second), 2 * math.gcd(first, second))


def ring_many(row):
    """Return how many times a row its ring is, one part like the other."""
    ring = naive_ring(row)
    return max(many for many in range(1, len(ring) + 1)
               if ring[:len(ring) // many] * many == ring)


class ReturnedRowsTest(unittest.TestCase):
    def test_all_are_plain_rows(self):
        rows = some_rows(2, 60, 20, "plain ones")
        for one, other in zip(rows, rows[1:]):
            found = [ring_of(2, one), root(2, one)[0]]
            found += [x for x in turner(2, one, other)[1:] + meet_power(2, one, other)[1:]
                      if not isinstance(x, int)]
            for row in found:
                self.assertTrue(is_row(2, row))
                self.assertEqual(plain(2, row), row)

    def test_a_passed_row_counts_as_its_plain_row(self):
        for row in all_rows(2, 4):
            short = afresh(row)
            self.assertEqual(ring_of(2, row), ring_of(2, short))
            self.assertEqual(root(2, row), root(2, short))
            self.assertEqual(turner(2, row, (1, 2)), turner(2, short, (1, 2)))
            self.assertEqual(turner(2, (1, 2), row), turner(2, (1, 2), short))
            self.assertEqual(meet_power(2, row, (1, 1)), meet_power(2, short, (1, 1)))
            self.assertEqual(meet_power(2, (1, 1), row), meet_power(2, (1, 1), short))

    def test_more_deeds_change_nothing(self):
        for row in all_rows(2, 4):
            for deeds in (3, 4):
                self.assertEqual(ring_of(deeds, row), ring_of(2, row))
                self.assertEqual(root(deeds, row), root(2, row))
                self.assertEqual(meet_power(deeds, row, (1, 2)), meet_power(2, row, (1, 2)))
                self.assertEqual(undone(deeds, ring_of(deeds, row)), back(ring_of(2, row)))


if __name__ == "__main__":
    unittest.main()

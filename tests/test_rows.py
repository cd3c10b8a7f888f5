"""Points 7, 11, 12 and 13: rows, plain ones, undone, products, many times, sums."""

import itertools
import unittest

from meankept.errors import BadDeeds, BadNumber, BadRow
from meankept.rows import beside, is_row, plain, sums, times_row, undone
from tests.helpers import (NOT_DEEDS, afresh, all_rows, any_values, back, check_first_wrong, is_plain,
                           letters, not_rows, not_times, plain_rows, some_rows)

LONG = (1, 2) * 100
WRONG = {"deeds": (BadDeeds, NOT_DEEDS), "row": (BadRow, not_rows(2)), "one": (BadRow, not_rows(2)),
         "other": (BadRow, not_rows(2)), "many": (BadNumber, not_times())}


def wrong_for(right):
    """Return what is wrong for each of the parameters."""
    return {name: WRONG[name] for name in right}


def naive_times(row, many):
    """Return many times the row, one copy behind the other."""
    found = ()
    for _ in range(abs(many)):
        found = afresh(found + (row if many > 0 else back(row)))
    return found


class IsRowTest(unittest.TestCase):
    def test_rows(self):
        for deeds in (1, 2, 3, 4):
            for row in all_rows(deeds, 2) + [(deeds, -deeds) * 100, (1,) * 200, (-deeds,) * 199]:
                self.assertIs(is_row(deeds, row), True, (deeds, row))

    def test_not_plain_rows_are_rows(self):
        self.assertIs(is_row(2, (1, -1)), True)
        self.assertIs(is_row(1, (1, -1) * 100), True)

    def test_length(self):
        self.assertIs(is_row(2, (1,) * 200), True)
        self.assertIs(is_row(2, (1,) * 201), False)
        self.assertIs(is_row(2, (1, -1) * 100 + (1,)), False)
        self.assertIs(is_row(2, ()), True)

    def test_letters_of_more_deeds(self):
        for deeds in (1, 2, 3, 4):
            for letter in range(-6, 7):
                right = letter != 0 and abs(letter) <= deeds
                self.assertIs(is_row(deeds, (letter,)), right, (deeds, letter))
                self.assertIs(is_row(deeds, (1, letter)), right, (deeds, letter))

    def test_any_value(self):
        for deeds in (1, 2, 3, 4):
            for value in not_rows(deeds):
                self.assertIs(is_row(deeds, value), False, (deeds, value))

    def test_truths_in_the_place_of_wholes(self):
        for value in ((True,), (1, True), (True, 2), (2, False), (False,)):
            self.assertIs(is_row(2, value), False, value)

    def test_a_judged_value_stays(self):
        value = [1, [2, -1]]
        self.assertIs(is_row(2, value), False)
        self.assertEqual(value, [1, [2, -1]])

    def test_bad_deeds_ahead_of_any_value(self):
        for deeds in NOT_DEEDS:
            for value in any_values() + [(), (1,), (0,)]:
                with self.assertRaises(BadDeeds):
                    is_row(deeds, value)
                with self.assertRaises(BadDeeds):
                    is_row(value=value, deeds=deeds)

    def test_by_name(self):
        self.assertIs(is_row(deeds=2, value=(1, 2)), True)
        self.assertIs(is_row(value=(3,), deeds=2), False)


class WrongValuesTest(unittest.TestCase):
    def test_one_row(self):
        for function in (plain, undone, sums):
            right = {"deeds": 2, "row": (1, 2)}
            check_first_wrong(self, function, right, wrong_for(right))

    def test_two_rows(self):
        right = {"deeds": 2, "one": (1, 2), "other": (2,)}
        check_first_wrong(self, beside, right, wrong_for(right))

    def test_times(self):
        right = {"deeds": 2, "row": (1, 2), "many": 3}
        check_first_wrong(self, times_row, right, wrong_for(right))

    def test_letters_of_more_deeds(self):
        for deeds in (1, 2, 3, 4):
            for letter in (deeds + 1, -deeds - 1):
                for call in (lambda: plain(deeds, (letter,)), lambda: undone(deeds, (1, letter)),
                             lambda: beside(deeds, (letter,), (1,)), lambda: sums(deeds, (letter,)),
                             lambda: beside(deeds, (1,), (letter,)),
                             lambda: times_row(deeds, (letter,), 1)):
                    with self.assertRaises(BadRow):
                        call()

    def test_length(self):
        for function in (plain, undone, sums):
            function(2, LONG)
            function(2, (1, -1) * 100)
            for row in (LONG + (1,), (1, -1) * 100 + (1,)):
                with self.assertRaises(BadRow):
                    function(2, row)

    def test_by_name_in_any_sequence(self):
        self.assertEqual(plain(row=(1, -1, 2), deeds=2), (2,))
        self.assertEqual(undone(row=(1, 2), deeds=2), (-2, -1))
        self.assertEqual(beside(other=(2,), one=(1,), deeds=2), (1, 2))
        self.assertEqual(times_row(many=2, row=(1,), deeds=2), (1, 1))
        self.assertEqual(sums(row=(1, 1), deeds=2), (2, 0))


class PlainTest(unittest.TestCase):
    def test_some(self):
        for row, right in (((), ()), ((1,), (1,)), ((1, -1), ()), ((-1, 1), ()), ((1, 1), (1, 1)),
                           ((1, 2, -2, -1), ()), ((1, 2, -2, 1), (1, 1)), ((1, -1, 1), (1,)),
                           ((2, 1, -1, -2, 1), (1,)), ((1, -2, 2, -1, 2, -2), ()),
                           ((1, 2, -1, -2), (1, 2, -1, -2))):
            self.assertEqual(plain(2, row), right, row)

    def test_all_short_rows(self):
        for deeds, size in ((1, 7), (2, 5), (3, 4), (4, 3)):
            for row in all_rows(deeds, size):
                found = plain(deeds, row)
                self.assertIs(type(found), tuple)
                self.assertEqual(found, afresh(row))
                self.assertTrue(is_plain(found))

    def test_long_rows(self):
        self.assertEqual(plain(2, LONG), LONG)
        self.assertEqual(plain(1, (1, -1) * 100), ())
        self.assertEqual(plain(1, (1,) * 100 + (-1,) * 100), ())
        for row in some_rows(2, 40, 200, "plain"):
            self.assertEqual(plain(2, row), afresh(row))

    def test_just_one_whatever_is_taken_out_first(self):
        for row in some_rows(2, 60, 14, "any end"):
            left = row
            while not is_plain(left):
                at = max(k for k in range(len(left) - 1) if left[k] == -left[k + 1])
                left = left[:at] + left[at + 2:]
            self.assertEqual(plain(2, row), left)


class UndoneTest(unittest.TestCase):
    def test_some(self):
        for row, right in (((), ()), ((1,), (-1,)), ((-2,), (2,)), ((1, 2), (-2, -1)),
                           ((1, -2, -2), (2, 2, -1)), ((1, -1, 2), (-2,)), ((1, -1), ())):
            self.assertEqual(undone(2, row), right, row)

    def test_all_short_rows(self):
        for deeds, size in ((1, 6), (2, 5), (3, 4), (4, 3)):
            for row in all_rows(deeds, size):
                found = undone(deeds, row)
                self.assertEqual(found, afresh(back(row)))
                self.assertEqual(undone(deeds, found), plain(deeds, row))

    def test_long_row(self):
        self.assertEqual(undone(2, LONG), (-2, -1) * 100)


class BesideTest(unittest.TestCase):
    def test_some(self):
        for one, other, right in (((), (), ()), ((1,), (), (1,)), ((), (1,), (1,)),
                                  ((1,), (2,), (1, 2)), ((2,), (1,), (2, 1)), ((1,), (-1,), ()),
                                  ((1, 2), (-2, 1), (1, 1)), ((1, 2), (-2, -1), ()),
                                  ((1, -1, 2), (2, 1, -1), (2, 2))):
            self.assertEqual(beside(2, one, other), right, (one, other))

    def test_all_short_pairs(self):
        rows = all_rows(2, 3)
        for one, other in itertools.product(rows, rows):
            self.assertEqual(beside(2, one, other), afresh(one + other))

    def test_longer_than_a_row_may_be(self):
        self.assertEqual(beside(2, LONG, LONG), LONG + LONG)
        self.assertEqual(beside(1, (1,) * 200, (1,) * 200), (1,) * 400)
        self.assertEqual(beside(1, (1,) * 200, (-1,) * 200), ())

    def test_three_rows_however_they_are_put_together(self):
        for one, two, three in itertools.product(plain_rows(2, 2), repeat=3):
            self.assertEqual(beside(2, beside(2, one, two), three), beside(2, one, beside(2, two, three)))
        rows = some_rows(3, 90, 60, "three")
        for one, two, three in zip(rows, rows[30:], rows[60:]):
            self.assertEqual(beside(3, beside(3, one, two), three), beside(3, one, beside(3, two, three)))

    def test_nothing_leaves_each_row(self):
        for row in all_rows(3, 4):
            self.assertEqual(beside(3, row, ()), plain(3, row))
            self.assertEqual(beside(3, (), row), plain(3, row))

    def test_beside_itself_undone(self):
        for row in all_rows(2, 5) + some_rows(4, 30, 200, "itself"):
            self.assertEqual(beside(4, row, undone(4, row)), ())
            self.assertEqual(beside(4, undone(4, row), row), ())

    def test_a_product_undone(self):
        for one, other in itertools.product(all_rows(2, 3), plain_rows(2, 3)):
            both = beside(2, undone(2, other), undone(2, one))
            self.assertEqual(undone(2, beside(2, one, other)), both)

    def test_shared_letters_of_undos(self):
        for one, other in zip(some_rows(2, 200, 100, "one"), some_rows(2, 200, 100, "other")):
            self.assertEqual(beside(2, one, other), afresh(one + other))


class TimesTest(unittest.TestCase):
    def test_some(self):
        for row, many, right in (((1,), 0, ()), ((1,), 1, (1,)), ((1,), -1, (-1,)), ((1, 2), 2, (1, 2, 1, 2)),
                                 ((1, 2), -2, (-2, -1, -2, -1)), ((1, 2, -1), 3, (1, 2, 2, 2, -1)),
                                 ((1, 2, -1), -3, (1, -2, -2, -2, -1)), ((), 20, ()), ((), -20, ()),
                                 ((1, -1), 7, ()), ((1,), 20, (1,) * 20), ((1,), -20, (-1,) * 20)):
            self.assertEqual(times_row(2, row, many), right, (row, many))

    def test_each_number_of_times(self):
        for row in plain_rows(2, 3) + [(1, -1, 2), (2, 1, -1, -2)]:
            for many in range(-20, 21):
                self.assertEqual(times_row(2, row, many), naive_times(row, many), (row, many))

    def test_long_row(self):
        self.assertEqual(times_row(2, LONG, 20), LONG * 20)
        self.assertEqual(times_row(2, LONG, -20), back(LONG) * 20)
        self.assertEqual(times_row(2, LONG, 0), ())

    def test_times_add_up(self):
        for row in some_rows(2, 20, 8, "add"):
            for first, second in itertools.product(range(-4, 5), repeat=2):
                both = beside(2, times_row(2, row, first), times_row(2, row, second))
                self.assertEqual(times_row(2, row, first + second), both)

    def test_edges(self):
        for many in (-20, -1, 0, 1, 20):
            times_row(1, (1,), many)
        for many in (-21, 21):
            with self.assertRaises(BadNumber):
                times_row(1, (1,), many)
            with self.assertRaises(BadNumber):
                times_row(1, (), many)


class SumsTest(unittest.TestCase):
    def test_some(self):
        for deeds, row, right in ((1, (), (0,)), (4, (), (0, 0, 0, 0)), (1, (-1, -1), (-2,)),
                                  (2, (1, 2, -1, -2), (0, 0)), (3, (1, 3, 3, -2), (1, -1, 2)),
                                  (4, (4, -3, 4), (0, 0, -1, 2)), (2, (1, -1), (0, 0)),
                                  (2, LONG, (100, 100)), (1, (-1,) * 200, (-200,))):
            found = sums(deeds, row)
            self.assertIs(type(found), tuple)
            self.assertEqual(found, right, (deeds, row))

    def test_all_short_rows(self):
        for deeds, size in ((1, 5), (2, 5), (3, 4), (4, 3)):
            for row in all_rows(deeds, size):
                right = [0] * deeds
                for letter in row:
                    right[abs(letter) - 1] += 1 if letter > 0 else -1
                self.assertEqual(sums(deeds, row), tuple(right))
                self.assertEqual(sums(deeds, plain(deeds, row)), tuple(right))

    def test_of_a_product(self):
        for one, other in itertools.product(all_rows(2, 3), plain_rows(2, 3)):
            right = tuple(x + y for x, y in zip(sums(2, one), sums(2, other)))
            self.assertEqual(sums(2, beside(2, one, other)), right)

    def test_of_turned_rows(self):
        for row, by in zip(some_rows(3, 100, 20, "row"), some_rows(3, 100, 20, "by")):
            turned = beside(3, beside(3, by, row), undone(3, by))
            self.assertEqual(sums(3, turned), sums(3, row))

    def test_of_undone_rows_and_many_times(self):
        for row in some_rows(3, 50, 9, "times"):
            for many in (-20, -3, -1, 0, 1, 2, 20):
                right = tuple(many * x for x in sums(3, row))
                self.assertEqual(sums(3, times_row(3, row, many)), right)


class RowsTest(unittest.TestCase):
    def test_a_passed_row_counts_as_its_plain_row(self):
        for row in all_rows(2, 4):
            short = afresh(row)
            self.assertEqual(undone(2, row), undone(2, short))
            self.assertEqual(beside(2, row, (1, 2)), beside(2, short, (1, 2)))
            self.assertEqual(beside(2, (1, 2), row), beside(2, (1, 2), short))
            self.assertEqual(times_row(2, row, 2), times_row(2, short, 2))
            self.assertEqual(sums(2, row), sums(2, short))

    def test_more_deeds_change_nothing(self):
        for row in all_rows(2, 4):
            for deeds in (3, 4):
                self.assertEqual(plain(deeds, row), plain(2, row))
                self.assertEqual(undone(deeds, row), undone(2, row))
                self.assertEqual(sums(deeds, row), sums(2, row) + (0,) * (deeds - 2))

    def test_each_letter_of_each_number_of_deeds(self):
        for deeds in (1, 2, 3, 4):
            for letter in letters(deeds):
                self.assertEqual(plain(deeds, (letter,)), (letter,))
                self.assertEqual(undone(deeds, (letter,)), (-letter,))
                self.assertEqual(beside(deeds, (letter,), (letter,)), (letter, letter))
                self.assertEqual(times_row(deeds, (letter,), -2), (-letter, -letter))


if __name__ == "__main__":
    unittest.main()

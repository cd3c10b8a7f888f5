"""Points 81 to 83 and 85: shares, means and means of squares, over all houses gone through one by one."""

import fractions
import itertools
import math
import random
import unittest

from meankept.errors import BadDeeds, BadPlaces, BadRow, BadRows, BadWeb, TooMany
from meankept.houses import least_house, total_kept
from meankept.means import mean, mean_square, share
from meankept.numbers import is_number
from meankept.pictures import pictures
from meankept.webs import web_of
from tests.helpers import (NOT_DEEDS, NOT_PLACES, back, check_first_wrong, drawn_renaming, houses_of,
                           kept_counts, not_lists, not_rows, not_webs, plain_rows, some_lists, some_rows, some_webs,
                           step, tell, turned, worth)

COMMUTATOR = (2, 4, ((0, 1, 1), (0, 2, 2), (1, 2, 3), (2, 1, 3)))
WHOLE = (2, 1, ((0, 1, 0), (0, 2, 0)))


def falling(top, many):
    """Return top times top - 1 and so on, with so many factors."""
    return math.prod(top - k for k in range(many))


def told_share(web, places):
    """Return the share of a web as it is told."""
    deeds, many, ties = web
    if many > places:
        return 0
    bottom = 1
    for deed in range(1, deeds + 1):
        bottom *= falling(places, sum(tie[1] == deed for tie in ties))
    return fractions.Fraction(falling(places, many), bottom)


def average(values):
    """Return the mean of a list of wholes."""
    return fractions.Fraction(sum(values), len(values))


def sizes_for(deeds):
    """Return the numbers of places for which all houses are gone through."""
    return (1, 2, 3, 4) if deeds == 1 else (1, 2, 3) if deeds == 2 else (1, 2)


class WrongValuesTest(unittest.TestCase):
    def test_share(self):
        check_first_wrong(self, share, {"web": COMMUTATOR, "places": 5},
                          {"web": (BadWeb, not_webs()), "places": (BadPlaces, NOT_PLACES)})

    def test_mean(self):
        for rows in ([], [(1, 2, -1, -2), (2,)]):
            check_first_wrong(self, mean, {"deeds": 2, "rows": rows, "places": 5},
                              {"deeds": (BadDeeds, NOT_DEEDS), "rows": (BadRows, not_lists(2)),
                               "places": (BadPlaces, NOT_PLACES)})

    def test_mean_square(self):
        for row in ((), (1, 2)):
            check_first_wrong(self, mean_square, {"deeds": 2, "row": row, "places": 5},
                              {"deeds": (BadDeeds, NOT_DEEDS), "row": (BadRow, not_rows(2)),
                               "places": (BadPlaces, NOT_PLACES)})

    def test_wrong_ones_ahead_of_too_many(self):
        for wrong in NOT_PLACES:
            with self.assertRaises(BadPlaces):
                mean(2, [(1, 1, 2) * 60], wrong)
            with self.assertRaises(BadPlaces):
                mean_square(2, (1,) * 6, wrong)


class ShareTest(unittest.TestCase):
    def test_as_it_is_told(self):
        for web in some_webs(80, 12, "share"):
            for places in list(range(1, 16)) + [60, 999999, 1000000]:
                found = share(web, places)
                self.assertIs(is_number(found), True)
                self.assertEqual(worth(found), told_share(web, places))

    def test_manners_to_lay_a_web_into_houses(self):
        for web in some_webs(60, 3, "manners"):
            deeds, many, ties = web
            for places in sizes_for(deeds):
                houses = houses_of(deeds, places)
                found = 0
                for house in houses:
                    for given in itertools.permutations(range(places), many):
                        found += all(step(house, x, given[p]) == given[q] for p, x, q in ties)
                self.assertEqual(worth(share(web, places)), fractions.Fraction(found, len(houses)))

    def test_some(self):
        for web, places, right in (((1, 1, ()), 1, 1), ((2, 1, ()), 1000000, 1000000), (WHOLE, 1, 1), (WHOLE, 2, (1, 2)),
                                   (WHOLE, 1000000, (1, 1000000)), (COMMUTATOR, 3, 0), (COMMUTATOR, 4, (1, 6)),
                                   (COMMUTATOR, 1, 0), (web_of(1, [(1, 1)]), 1, 0), (web_of(1, [(1, 1)]), 2, 1),
                                   (web_of(1, [(1,) * 200]), 199, 0), (web_of(1, [(1,) * 200]), 200, 1)):
            self.assertEqual(share(web, places), right)

    def test_large_webs(self):
        for deeds, rows in some_lists(12, 100, "large share"):
            web = web_of(deeds, rows)
            for places in (web[1], 1000000):
                self.assertEqual(worth(share(web, places)), told_share(web, places))
            self.assertEqual(share(web, max(web[1] - 1, 1)), told_share(web, max(web[1] - 1, 1)) if web[1] == 1 else 0)


class MeanTest(unittest.TestCase):
    def test_over_all_houses(self):
        for deeds, rows in some_lists(150, 3, "mean"):
            if web_of(deeds, rows)[1] <= 8:
                for places in sizes_for(deeds):
                    found = mean(deeds, rows, places)
                    self.assertIs(is_number(found), True)
                    self.assertEqual(worth(found), average(kept_counts(deeds, rows, places)))
                    self.assertEqual(mean(deeds, tuple(rows), places), found)

    def test_larger_houses_by_total_kept(self):
        for deeds, rows in some_lists(100, 3, "mean of total"):
            if web_of(deeds, rows)[1] <= 8:
                for places in {1: (5, 6, 7), 2: (4, 5), 3: (3, 4), 4: (2, 3)}[deeds]:
                    houses = math.factorial(places) ** deeds
                    self.assertEqual(worth(mean(deeds, rows, places)) * houses, total_kept(deeds, rows, places))

    def test_the_shares_of_all_pictures(self):
        for deeds, rows in some_lists(80, 3, "shares of pictures"):
            if web_of(deeds, rows)[1] <= 7:
                for places in (1, 2, 5, 17, 1000000):
                    right = sum(worth(share(picture, places)) for picture in pictures(deeds, rows))
                    self.assertEqual(worth(mean(deeds, rows, places)), right)

    def test_examples_by_hand(self):
        self.assertEqual(mean(2, [(1, 2, -1, -2)], 1), 1)
        for places in (2, 3, 4, 5, 60, 1000000):
            self.assertEqual(worth(mean(2, [(1, 2, -1, -2)], places)), fractions.Fraction(places, places - 1))
            self.assertEqual(mean(2, [(1, 1)], places), 2)
            self.assertEqual(mean(2, [(1,), (2,)], places), (1, places))
            self.assertEqual(mean(2, [], places), places)
            self.assertEqual(mean(2, [()] * 6, places), places)

    def test_one_place(self):
        for deeds, rows in some_lists(60, 3, "one place"):
            if web_of(deeds, rows)[1] <= 8:
                self.assertEqual(mean(deeds, rows, 1), 1)

    def test_times_a_letter(self):
        for many in list(range(1, 31)) + [199, 200]:
            for places in (1, 2, 3, 7, 100, 1000000):
                divisors = sum(many % size == 0 for size in range(1, min(many, places) + 1))
                self.assertEqual(mean(1, [(-1,) * many], places), divisors)

    def test_facts(self):
        source = random.Random("facts on means")
        for deeds, rows in some_lists(120, 3, "facts on means"):
            by = source.choice(plain_rows(deeds, 2))
            other = [turned(source.choice([row, back(row)]), by) for row in rows]
            images = drawn_renaming(source, deeds, 9)
            other = [tell(images, row) for row in other]
            if max(web_of(deeds, rows)[1], web_of(deeds, [row[:200] for row in other])[1]) <= 8:
                for places in (1, 2, 3, 4, 6, 20):
                    self.assertEqual(mean(deeds, rows, places), mean(deeds, other, places))

    def test_a_mean_is_all_exactly_if_no_house_moves_a_place(self):
        for deeds in (1, 2):
            for row in plain_rows(deeds, 5)[1:]:
                least = least_house(deeds, row)[0]
                for places in range(1, 7):
                    self.assertEqual(mean(deeds, [row], places) == places, places < least)

    def test_without_a_common_deed(self):
        source = random.Random("common deed")
        for _ in range(60):
            us = [tuple(source.choice([1, -1, 2, -2]) for _ in range(source.randint(0, 4))) for _ in range(2)]
            vs = [tuple(source.choice([3, -3, 4, -4]) for _ in range(source.randint(0, 3))) for _ in range(2)]
            for places in (2, 3, 4, 9, 1000):
                m, n = worth(mean(4, us[:1], places)), worth(mean(4, vs[:1], places))
                self.assertEqual(worth(mean(4, [us[0] + vs[0]], places)), 1 + (m - 1) * (n - 1) / (places - 1))
                m, n = worth(mean(4, us, places)), worth(mean(4, vs, places))
                if web_of(4, us)[1] + web_of(4, vs)[1] <= 8:
                    self.assertEqual(worth(mean(4, us + vs, places)), m * n / places)

    def test_as_near_as_wanted_to_the_number_of_divisors(self):
        for row, many, divisors in (((1, 2), 1, 1), ((1, 2), 2, 2), ((1, 2, -1, -2), 1, 1), ((1, 1, 2, 2), 1, 1),
                                    ((1, 2), 3, 2), ((1, 2), 4, 3)):
            self.assertLess(abs(worth(mean(2, [row * many], 1000000)) - divisors), fractions.Fraction(1, 1000))

    def test_just_2000_pictures(self):
        rows = [(4, 3, 3, -1, 3, 4, 3, 2, 3, 4)]
        self.assertEqual(worth(mean(4, rows, 2)), average(kept_counts(4, rows, 2)))
        with self.assertRaises(TooMany):
            mean(4, [(-1, -1, 4, 3, 1, 4, 4, 2, 4), (3, -1, 4)], 2)

    def test_too_many(self):
        for rows in ([(1, 1, 2) * 60], some_rows(4, 6, 40, "too many means")):
            with self.assertRaises(TooMany) as caught:
                mean(4, rows, 3)
            self.assertEqual(caught.exception.most, 2000)


class MeanSquareTest(unittest.TestCase):
    def check(self, deeds, row, places):
        """Check a mean of a square over all houses."""
        found = mean_square(deeds, row, places)
        self.assertIs(is_number(found), True)
        self.assertEqual(worth(found), average([many ** 2 for many in kept_counts(deeds, [row], places)]))

    def test_over_all_houses(self):
        for deeds in (1, 2, 3):
            for row in some_rows(deeds, 40, 5, f"squares {deeds}"):
                for places in sizes_for(deeds):
                    self.check(deeds, row, places)
        for row in plain_rows(2, 3):
            self.check(2, row, 4)
        for row in plain_rows(1, 5):
            for places in range(1, 7):
                self.check(1, row, places)

    def test_four_deeds(self):
        for row in ((1, 2, 3, 4), (1, 2, 3, 4, 1), (4, 4, -3, 1, 2)):
            self.check(4, row, 2)
            for places in (1, 2, 3, 5, 1000000):
                self.assertIs(is_number(mean_square(4, row, places)), True)
        self.check(3, (1, 2, 3, -1, 2), 3)

    def test_the_row_without_letters(self):
        for deeds in range(1, 5):
            for places in (1, 2, 3, 1000000):
                for row in ((), (1, -1), (1, 1, -1, -1) * 50):
                    self.assertEqual(mean_square(deeds, row, places), places ** 2)

    def test_letters(self):
        # The kept places of all orders: one in the mean, and one of all ordered pairs of two places.
        for places in (2, 3, 4, 100, 1000000):
            self.assertEqual(mean_square(1, (1,), places), 2)
            self.assertEqual(mean_square(4, (1, 2, 3, -4), places), 2)
            self.assertEqual(mean_square(4, (1, 2, -3, 4, -1), places), 2)
        self.assertEqual(mean_square(1, (1,), 1), 1)
        self.assertEqual(mean_square(1, (1, 1), 4), 7)

    def test_five_letters_and_six(self):
        # Of letters alone and of rings of five letters: 2 for the first ones, 6 for the others, 2 for both.
        self.assertEqual(mean_square(1, (1,) * 5, 10), 2 + 6 + 2)
        self.assertEqual(mean_square(2, (1, 2, -2, 1, 1, 1, 1), 3), mean_square(2, (1,) * 5, 3))
        for row in ((1,) * 6, (1, 2) * 3, (1,) * 200, (1, 2, -1, -2, 1, 1)):
            with self.assertRaises(TooMany) as caught:
                mean_square(2, row, 3)
            self.assertEqual(caught.exception.most, 5)

    def test_a_deed_a_row_and_both_back(self):
        for u in plain_rows(2, 3):
            moved = tuple(x + 1 if x > 0 else x - 1 for x in u)
            row = (1,) + moved + (-1,) + back(moved)
            for places in (2, 3, 5, 50):
                s = worth(mean_square(3, moved, places)) - 2 * worth(mean(3, [moved], places)) + 1
                self.assertEqual(worth(mean(3, [row], places)), 1 + s / (places - 1))

    def test_rows_that_are_turned_keep_as_many(self):
        for row in plain_rows(2, 3):
            for by in ((1,), (-2,), (2,)):
                other = turned(row, by)
                if len(other) <= 5:
                    for places in (1, 2, 3, 8):
                        self.assertEqual(mean_square(2, row, places), mean_square(2, other, places))


if __name__ == "__main__":
    unittest.main()

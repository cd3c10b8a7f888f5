"""Points 84 and 85: the mean as one fraction of polynomials."""

import fractions
import random
import unittest

from meankept.errors import BadDeeds, BadRows, TooMany
from meankept.fractions import mean_fraction
from meankept.means import mean
from meankept.webs import web_of
from tests.helpers import (NOT_DEEDS, back, check_first_wrong, drawn_renaming, not_lists, plain_rows, some_lists, tell,
                           turned, worth)


def value(polynomial, place):
    """Return the value of a polynomial."""
    return sum(factor * place ** at for at, factor in enumerate(polynomial))


def rest(one, other):
    """Return the rest of one polynomial, divided by another one, as a list of fractions."""
    left = [fractions.Fraction(factor) for factor in one]
    while len(left) >= len(other):
        times = left[-1] / other[-1]
        for at in range(1, len(other) + 1):
            left[-at] -= times * other[-at]
        left.pop()
        while left and left[-1] == 0:
            left.pop()
    return left


def common_size(one, other):
    """Return how many coefficients the greatest common divisor of two polynomials has."""
    while other:
        one, other = list(other), rest(one, other)
    return len(one)


class WrongValuesTest(unittest.TestCase):
    def test_rows(self):
        for rows in ([], [(1, 2, -1, -2)]):
            check_first_wrong(self, mean_fraction, {"deeds": 2, "rows": rows},
                              {"deeds": (BadDeeds, NOT_DEEDS), "rows": (BadRows, not_lists(2))})

    def test_too_many(self):
        self.assertEqual(mean_fraction(4, [(4, 3, 3, -1, 3, 4, 3, 2, 3, 4)]), ((1,), (1,), 10))
        for rows in ([(1, 1, 2) * 60], [(-1, -1, 4, 3, 1, 4, 4, 2, 4), (3, -1, 4)]):
            with self.assertRaises(TooMany) as caught:
                mean_fraction(4, rows)
            self.assertEqual(caught.exception.most, 2000)
        with self.assertRaises(BadRows):
            mean_fraction(1, [(1, 1, 2) * 60])


class FractionTest(unittest.TestCase):
    def test_examples_by_hand(self):
        self.assertEqual(mean_fraction(2, [(1, 2, -1, -2)]), ((0, 1), (-1, 1), 4))
        self.assertEqual(mean_fraction(2, [(1, 1)]), ((2,), (1,), 2))
        self.assertEqual(mean_fraction(2, [(1,), (2,)]), ((1,), (0, 1), 1))
        for deeds in range(1, 5):
            for rows in ([], (), [()], [(1, -1)] * 6):
                self.assertEqual(mean_fraction(deeds, rows), ((0, 1), (1,), 1))

    def test_letters(self):
        for deeds in range(1, 5):
            self.assertEqual(mean_fraction(deeds, [(-deeds,)]), ((1,), (1,), 1))
            self.assertEqual(mean_fraction(deeds, [(x,) for x in range(1, deeds + 1)]),
                             ((1,), (0,) * (deeds - 1) + (1,), 1))
        self.assertEqual(mean_fraction(2, [(1, 2)]), ((1,), (1,), 2))

    def check(self, deeds, rows):
        """Check that a fraction has its form and is the mean; return it."""
        found = mean_fraction(deeds, rows)
        self.assertIs(type(found), tuple)
        top, bottom, least = found
        for polynomial in (top, bottom):
            self.assertIs(type(polynomial), tuple)
            self.assertTrue(all(type(factor) is int for factor in polynomial))
            self.assertNotEqual(polynomial[-1:], (0,))
        self.assertEqual(bottom[-1], 1)
        self.assertEqual(common_size(top, bottom), 1)
        self.assertEqual(least, web_of(deeds, rows)[1])
        for places in list(range(least, least + 12)) + [60, 1000000]:
            self.assertNotEqual(value(bottom, places), 0)
            self.assertEqual(worth(mean(deeds, rows, places)), fractions.Fraction(value(top, places), value(bottom, places)))
        self.assertEqual(mean_fraction(deeds, tuple(rows)), found)
        return found

    def test_drawn(self):
        unlike = set()
        for deeds, rows in some_lists(200, 3, "fractions"):
            if web_of(deeds, rows)[1] <= 8:
                unlike.add(self.check(deeds, rows)[:2])
        self.assertGreater(len(unlike), 8)

    def test_some_fractions(self):
        for deeds, rows in ((2, [(1, 1, 2, 2)]), (2, [(1, 1), (2, 2)]), (2, [(1, 2, -1, -2), (1, 1)]),
                            (2, [(1, 2), (2, 1, 1), (1, 2, 2)]), (2, [(1, 1, 1, 2, 2)]), (3, [(1, 2, 3, 1, 2, 3)]),
                            (2, [(1, 2, 1, -2, -2, 1)]), (3, [(1, 1, 2, 2, 3, 3)]), (2, [(1, 1, 2, -1, -1, 2)]),
                            (3, [(1, 2, -1, -2), (1, 3, -1, -3)]), (4, [(1, 2), (3, 4), (1, 4, 3)])):
            self.check(deeds, rows)

    def test_all_short_rows(self):
        for row in plain_rows(2, 5):
            self.check(2, [row])

    def test_times_a_letter(self):
        for many in list(range(1, 25)) + [120, 199, 200]:
            divisors = sum(many % size == 0 for size in range(1, many + 1))
            self.assertEqual(mean_fraction(1, [(1,) * many]), ((divisors,), (1,), many))
            self.assertEqual(mean_fraction(3, [(-2,) * many]), ((divisors,), (1,), many))

    def test_facts(self):
        source = random.Random("facts on fractions")
        for deeds, rows in some_lists(80, 3, "facts on fractions"):
            images = drawn_renaming(source, deeds, 9)
            other = [turned(source.choice([row, back(row)]), (1,)) for row in [tell(images, row) for row in rows]]
            if max(web_of(deeds, rows)[1], web_of(deeds, other)[1]) <= 8:
                self.assertEqual(mean_fraction(deeds, rows)[:2], mean_fraction(deeds, other)[:2])

    def test_products_and_lists_without_a_common_deed(self):
        one, other = (1, 1, 2, 2), (3, 3)
        top, bottom, _ = self.check(3, [one + other])
        m, n = mean_fraction(3, [one]), mean_fraction(3, [other])
        for places in range(9, 15):
            first, second = [fractions.Fraction(value(part[0], places), value(part[1], places)) for part in (m, n)]
            right = 1 + (first - 1) * (second - 1) / (places - 1)
            self.assertEqual(fractions.Fraction(value(top, places), value(bottom, places)), right)
        self.assertEqual(mean_fraction(3, [(1, 1), (3, 3)])[:2], ((4,), (0, 1)))


if __name__ == "__main__":
    unittest.main()

"""Polynomials as lists of coefficients, for the fractions of point 84."""

import itertools
import unittest

from meankept.polynomials import added, value_at, with_root, without_root


def value(polynomial, place):
    """Return the value of a polynomial."""
    return sum(factor * place ** at for at, factor in enumerate(polynomial))


def some_polynomials():
    """Return all polynomials of at most three coefficients from -2 to 2."""
    found = [[]]
    for size in (1, 2, 3):
        found += [list(factors) for factors in itertools.product(range(-2, 3), repeat=size) if factors[-1] != 0]
    return found


class PolynomialsTest(unittest.TestCase):
    def test_values(self):
        for polynomial in some_polynomials():
            for place in (-3, -1, 0, 1, 2, 10 ** 6):
                self.assertEqual(value_at(polynomial, place), value(polynomial, place))

    def test_roots(self):
        for polynomial in some_polynomials()[1:]:
            for root in (0, 1, 2, 7):
                longer = with_root(polynomial, root)
                self.assertEqual(len(longer), len(polynomial) + 1)
                self.assertEqual(without_root(longer, root), polynomial)
                for place in (-2, 0, 1, 5):
                    self.assertEqual(value(longer, place), value(polynomial, place) * (place - root))

    def test_sums(self):
        for one, other in itertools.product(some_polynomials()[::3], repeat=2):
            found = added(one, other)
            self.assertTrue(found == [] or found[-1] != 0)
            for place in (-2, 0, 1, 5):
                self.assertEqual(value(found, place), value(one, place) + value(other, place))
        self.assertEqual(added([1, 2, -1], [0, 3, 1]), [1, 5])
        self.assertEqual(added([1, -2], [-1, 2]), [])

    def test_what_is_passed_in_stays(self):
        one, other = [1, 2], [3, 4, 5]
        added(one, other)
        with_root(one, 3)
        value_at(other, 2)
        without_root([-3, 1], 3)
        self.assertEqual((one, other), ([1, 2], [3, 4, 5]))


if __name__ == "__main__":
    unittest.main()

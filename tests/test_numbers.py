"""Point 10: numbers; and points 3 to 6 as far as they speak of them."""

import unittest
from fractions import Fraction

from meankept.errors import BadNumber
from meankept.numbers import is_number, number
from tests.helpers import NOT_WHOLES, any_values, check_first_wrong

BIG = 10 ** 30 - 1


class IsNumberTest(unittest.TestCase):
    def test_wholes(self):
        for value in (0, 1, -1, 2, -7, BIG, -BIG):
            self.assertIs(is_number(value), True, value)

    def test_pairs(self):
        for value in ((1, 2), (-1, 2), (3, 2), (-3, 2), (2, 3), (5, 7), (BIG, BIG - 1), (1, BIG),
                      (-BIG, 10 ** 29)):
            self.assertIs(is_number(value), True, value)

    def test_bottoms_that_do_not_fit(self):
        for value in ((1, 1), (5, 1), (0, 1), (1, 0), (0, 0), (1, -2), (-1, -2), (3, -1)):
            self.assertIs(is_number(value), False, value)

    def test_common_divisors(self):
        for value in ((0, 2), (0, 3), (2, 2), (2, 4), (-2, 4), (6, 4), (-9, 6), (2 * 10 ** 29, 2),
                      (BIG, BIG), (10 ** 29, 15)):
            self.assertIs(is_number(value), False, value)

    def test_all_small_pairs(self):
        for top in range(-12, 13):
            for bottom in range(-12, 13):
                right = bottom >= 2 and Fraction(top, bottom).denominator == bottom
                self.assertIs(is_number((top, bottom)), right, (top, bottom))

    def test_truths_are_no_wholes(self):
        for value in (True, False, (True, 2), (False, 2), (1, True), (1, False), (True, True)):
            self.assertIs(is_number(value), False, value)

    def test_any_value(self):
        for value in any_values() + [(), (1,), (1, 2, 3), (None, 2), (1, None), ("1", 2), (1, "2"),
                                     ((1,), 2), (1, (2,)), ((1, 2), 3), ([1], 2), ({}, {})]:
            self.assertIs(is_number(value), False, value)

    def test_a_list_is_no_pair_and_stays(self):
        value = [1, 2]
        self.assertIs(is_number(value), False)
        self.assertEqual(value, [1, 2])

    def test_by_name(self):
        self.assertIs(is_number(value=(1, 2)), True)
        self.assertIs(is_number(value=None), False)


class NumberTest(unittest.TestCase):
    def check_is(self, found, right):
        self.assertEqual(found, right)
        self.assertIs(type(found), type(right))
        self.assertTrue(is_number(found))

    def test_wholes(self):
        for top, bottom, right in ((4, 2, 2), (0, 1, 0), (0, 7, 0), (0, -7, 0), (5, 1, 5), (5, -1, -5),
                                   (-6, 3, -2), (6, -3, -2), (-6, -3, 2), (BIG, 1, BIG),
                                   (BIG, BIG, 1), (-BIG, BIG, -1), (BIG, -BIG, -1)):
            self.check_is(number(top, bottom), right)

    def test_pairs(self):
        for top, bottom, right in ((1, 2, (1, 2)), (2, 4, (1, 2)), (-1, 2, (-1, 2)), (1, -2, (-1, 2)),
                                   (-1, -2, (1, 2)), (6, 4, (3, 2)), (6, -4, (-3, 2)),
                                   (-9, -6, (3, 2)), (10 ** 29, 3 * 10 ** 29, (1, 3)),
                                   (BIG, BIG - 1, (BIG, BIG - 1)), (1, -BIG, (-1, BIG))):
            self.check_is(number(top, bottom), right)

    def test_all_small_ones(self):
        for top in range(-24, 25):
            for bottom in range(-24, 25):
                if bottom == 0:
                    continue
                right = Fraction(top, bottom)
                if right.denominator == 1:
                    self.check_is(number(top, bottom), right.numerator)
                else:
                    self.check_is(number(top, bottom), (right.numerator, right.denominator))

    def test_same_from_many_times_top_and_bottom(self):
        for top, bottom in ((3, 7), (-3, 7), (0, 5), (8, 4), (1, 2)):
            for many in (1, -1, 2, -6, 10 ** 27 + 1, -10 ** 28):
                self.assertEqual(number(many * top, many * bottom), number(top, bottom))

    def test_wrong_values(self):
        right = {"top": 1, "bottom": 2}
        check_first_wrong(self, number, right, {"top": (BadNumber, NOT_WHOLES),
                                                "bottom": (BadNumber, NOT_WHOLES + [0])})

    def test_bottom_zero_for_each_top(self):
        for top in (0, 1, -1, BIG):
            with self.assertRaises(BadNumber):
                number(top, 0)

    def test_by_name_in_either_sequence(self):
        self.assertEqual(number(top=6, bottom=4), (3, 2))
        self.assertEqual(number(bottom=4, top=6), (3, 2))


if __name__ == "__main__":
    unittest.main()

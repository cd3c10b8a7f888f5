"""Points 91 to 95: depths of rows, what their means tell of them, and rows that keep as few places as can be."""

import fractions
import random
import unittest

from meankept.depths import depth, keeps_alone, leading, least_unlike
from meankept.errors import BadDeeds, BadRow, BadRows, TooMany
from meankept.fractions import mean_fraction
from meankept.means import mean
from meankept.renamings import renamed
from meankept.shortest import as_letter
from meankept.webs import rank, web_of
from tests.helpers import (NOT_DEEDS, back, check_first_wrong, drawn_renaming, is_free_naively, kept_counts,
                           naive_pictures, not_lists, not_rows, plain_rows, some_lists, some_rows, tell, turned, whole,
                           worth)

WHOLE = whole(2)
# A letter with 2000 pictures, a letter with more, and another row with more.
JUST = (4, 3, 3, -1, 3, 4, 3, 2, 3, 4)
MUCH_LETTER = (1, 1, 2) * 3 + (1, 2, 2, 1) + (3,) + (1, 2) * 5
MUCH = (1, 1, 2) * 60


def naive_depth(deeds, row):
    """Return the depth of a row, by all its pictures and all joinings."""
    web = web_of(deeds, [row])
    lot = [picture for picture in naive_pictures(web) if web[2] == () or not is_free_naively(web, picture)]
    if not lot:
        return None
    least = min(map(rank, lot))
    return (least, [picture for picture in lot if rank(picture) == least])


def power(base, many):
    """Return base to the power of many, a whole that may be below 0."""
    return fractions.Fraction(base) ** many


class WrongValuesTest(unittest.TestCase):
    def test_rows(self):
        for function in (depth, leading, least_unlike):
            for row in ((), (1, 2, -1, -2)):
                check_first_wrong(self, function, {"deeds": 2, "row": row},
                                  {"deeds": (BadDeeds, NOT_DEEDS), "row": (BadRow, not_rows(2))})
        for rows in ([], [(1, 2, -1, -2), (1,)]):
            check_first_wrong(self, keeps_alone, {"deeds": 2, "rows": rows},
                              {"deeds": (BadDeeds, NOT_DEEDS), "rows": (BadRows, not_lists(2))})

    def test_too_many(self):
        self.assertIsNotNone(as_letter(4, MUCH_LETTER))
        for row in (MUCH_LETTER, MUCH):
            for call in (lambda: depth(4, row), lambda: leading(4, row), lambda: least_unlike(4, row),
                         lambda: keeps_alone(4, [row]), lambda: keeps_alone(4, [row, (4,)])):
                with self.assertRaises(TooMany) as caught:
                    call()
                self.assertEqual(caught.exception.most, 2000)
            for function in (depth, leading, least_unlike):
                with self.assertRaises(BadDeeds):
                    function(0, row)
                with self.assertRaises(BadRow):
                    function(1, row)
        with self.assertRaises(TooMany):
            keeps_alone(4, [(-1, -1, 4, 3, 1, 4, 4, 2, 4), (3, -1, 4)])

    def test_just_2000(self):
        self.assertIsNone(depth(4, JUST))
        self.assertIsNone(leading(4, JUST))
        self.assertIsNone(least_unlike(4, JUST))
        self.assertIs(keeps_alone(4, [JUST]), True)


class DepthTest(unittest.TestCase):
    def test_examples_by_hand(self):
        self.assertEqual(depth(2, (1, 2, -1, -2)), (2, [WHOLE]))
        self.assertEqual(leading(2, (1, 2, -1, -2)), (1, 1))
        self.assertEqual(least_unlike(2, (1, 2, -1, -2)), (2, 2))
        for deeds in range(1, 5):
            self.assertEqual(depth(deeds, (1, 1)), (1, [(deeds, 1, ((0, 1, 0),))]))
            self.assertEqual(leading(deeds, (1, 1)), (0, 1))
            self.assertEqual(least_unlike(deeds, (1, 1)), (2, 2))
        self.assertEqual(renamed(2, ((1,), (-1, -1, 2)), (1, 1, 2)), (2,))
        for function in (depth, leading, least_unlike):
            self.assertIsNone(function(2, (1, 1, 2)))

    def test_the_row_without_letters(self):
        for deeds in range(1, 5):
            for row in ((), (1, -1), (1, 1, -1, -1) * 50):
                self.assertEqual(depth(deeds, row), (0, [(deeds, 1, ())]))
                self.assertEqual(leading(deeds, row), (-1, 1))
                self.assertEqual(least_unlike(deeds, row), (2, 2))

    def test_letters(self):
        for deeds in range(1, 5):
            for x in range(1, deeds + 1):
                for row in ((x,), (-x,), (x, x, -x)):
                    for function in (depth, leading, least_unlike):
                        self.assertIsNone(function(deeds, row))

    def test_by_all_pictures(self):
        for row in plain_rows(2, 5):
            found = depth(2, row)
            self.assertEqual(found, naive_depth(2, row), row)
            if found is not None:
                self.assertIs(type(found), tuple)
                self.assertIs(type(found[1]), list)
                self.assertLessEqual(found[0], 2)
        for deeds in (1, 3, 4):
            for row in some_rows(deeds, 40, 5, f"depths {deeds}"):
                self.assertEqual(depth(deeds, row), naive_depth(deeds, row), row)

    def test_none_exactly_for_letters(self):
        for deeds, size in ((2, 6), (3, 4)):
            for row in plain_rows(deeds, size)[::3]:
                is_letter = as_letter(deeds, row) is not None
                for function in (depth, leading, least_unlike):
                    self.assertEqual(function(deeds, row) is None, is_letter, row)

    def test_many_times_a_row(self):
        for row, most in (((1,), 30), ((1, 2), 4), ((1, 1, 2), 3), ((1, 2, -1), 8), ((1, 2, -1, -2), 2)):
            for many in range(2, most + 1):
                divisors = sum(many % size == 0 for size in range(1, many + 1))
                found = depth(2, tell([row], (1,) * many))
                self.assertEqual((found[0], len(found[1])), (1, divisors - 1))
                self.assertEqual(leading(2, tell([row], (1,) * many)), (0, divisors - 1))
        self.assertEqual(len(depth(1, (1,) * 200)[1]), 11)
        self.assertEqual(least_unlike(1, (-1,) * 199), (199, 2))

    def test_leading_and_depth(self):
        for deeds in (1, 2, 3, 4):
            for row in some_rows(deeds, 80, 7, f"leading {deeds}"):
                found = depth(deeds, row)
                self.assertEqual(leading(deeds, row), None if found is None else (found[0] - 1, len(found[1])), row)

    def test_leading_by_the_mean(self):
        for row in plain_rows(2, 5) + some_rows(3, 60, 6, "by the mean"):
            found = leading(3, row)
            if found is None:
                self.assertEqual(mean_fraction(3, [row])[:2], ((1,), (1,)))
            else:
                near = (worth(mean(3, [row], 1000000)) - 1) * power(1000000, found[0])
                self.assertLess(abs(near - found[1]), fractions.Fraction(1, 1000))
                self.assertIs(type(found[1]), int)
                self.assertNotEqual(found[1], 0)

    def test_least_unlike_by_the_means(self):
        for deeds in (1, 2, 3):
            for row in some_rows(deeds, 80, 6, f"unlike {deeds}"):
                found = least_unlike(deeds, row)
                means = [mean(deeds, [row], places) for places in range(2, 12)]
                if found is None:
                    self.assertEqual(means, [1] * 10)
                else:
                    places, value = found
                    self.assertEqual(mean(deeds, [row], places), value)
                    self.assertNotEqual(value, 1)
                    self.assertEqual(means[:places - 2], [1] * min(places - 2, 10))

    def test_least_unlike_by_all_houses(self):
        for row in plain_rows(2, 4):
            found = least_unlike(2, row)
            for places in (2, 3):
                counts = kept_counts(2, [row], places)
                right = fractions.Fraction(sum(counts), len(counts))
                if found is None or places < found[0]:
                    self.assertEqual(right, 1)
                elif places == found[0]:
                    self.assertEqual(worth(found[1]), right)

    def test_renamed_turned_and_undone(self):
        source = random.Random("depths renamed")
        for deeds in (2, 3):
            for row in some_rows(deeds, 60, 5, f"depths renamed {deeds}"):
                other = turned(tell(drawn_renaming(source, deeds, 7), row), source.choice(plain_rows(deeds, 2)))
                for its in (other, back(row)):
                    if web_of(deeds, [its])[1] <= 8:
                        one, two = depth(deeds, row), depth(deeds, its)
                        self.assertEqual(one and (one[0], len(one[1])), two and (two[0], len(two[1])))
                        self.assertEqual(leading(deeds, row), leading(deeds, its))

    def test_products_without_a_common_deed(self):
        ones = [(), (1,), (1, 1), (1, 1, 2), (1, 2, -1, -2), (1, 1, 2, 2), (1, 2, 1, 2)]
        others = [(), (3,), (3, 3), (3, 4, -3, -4), (3, 4), (-4, -4, -4)]
        for u in ones:
            for v in others:
                one, other, both = depth(4, u), depth(4, v), depth(4, u + v)
                if one is None or other is None:
                    self.assertIsNone(both)
                    self.assertIsNone(leading(4, u + v))
                else:
                    self.assertEqual((both[0], len(both[1])), (one[0] + other[0], len(one[1]) * len(other[1])))
                    self.assertEqual(leading(4, u + v), (one[0] + other[0] - 1, len(one[1]) * len(other[1])))


class KeepsAloneTest(unittest.TestCase):
    def test_some(self):
        for rows, right in (([], True), ([()], True), ([(1,)], True), ([(1,), (2,)], True), ([(1, 1)], False),
                            ([(1, 2), (2,)], True), ([(1, 1), (2,)], False), ([(1, 2, -1, -2)], False),
                            ([(1, 1, 2)], True), ([(1,), (1,)], True), ([(1, 1), (1, 1, 1)], True),
                            ([(1,), (2,), (1, 2)], True), ([(1, 1), (2, 2), (1, 2)], False)):
            self.assertIs(keeps_alone(2, rows), right, rows)
            self.assertIs(keeps_alone(2, tuple(rows)), right, rows)

    def test_exactly_if_free_in_the_whole(self):
        found = {True: 0, False: 0}
        for deeds, rows in some_lists(250, 3, "alone"):
            web = web_of(deeds, rows)
            if web[1] <= 5:
                right = is_free_naively(web, whole(deeds))
                self.assertIs(keeps_alone(deeds, rows), right, rows)
                found[right] += 1
        self.assertGreater(min(found.values()), 30)

    def test_by_the_means(self):
        for deeds, rows in some_lists(150, 3, "alone by means"):
            web = web_of(deeds, rows)
            if web[1] <= 7:
                right = all(worth(mean(deeds, rows, places)) == power(places, 1 - rank(web))
                            for places in range(1, web[1] + 8))
                self.assertIs(keeps_alone(deeds, rows), right, rows)

    def test_images_of_a_renaming(self):
        source = random.Random("alone images")
        for _ in range(40):
            deeds = source.randint(1, 4)
            images = drawn_renaming(source, deeds, 9)
            some = source.sample(images, source.randint(0, deeds))
            if web_of(deeds, some)[1] <= 8:
                self.assertIs(keeps_alone(deeds, some), True)


if __name__ == "__main__":
    unittest.main()

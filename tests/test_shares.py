"""Points 86 and 87: own shares, and means of the product of what two rows keep."""

import fractions
import itertools
import random
import unittest

from meankept.depths import depth
from meankept.errors import BadDeeds, BadPlaces, BadRow, BadWeb, TooMany
from meankept.full import house_web
from meankept.hulls import bound_webs
from meankept.means import mean, mean_square, share
from meankept.numbers import is_number
from meankept.rings import root
from meankept.shares import mean_product, own_share
from meankept.webs import free_list, rank, web_of
from tests.helpers import (NOT_DEEDS, NOT_PLACES, back, check_first_wrong, drawn_renaming, houses_of, is_free_naively,
                           kept_counts, lead, naive_pictures, naive_ring, not_rows, not_webs, plain_rows, some_lists,
                           some_rows, some_webs, tell, turn_naively, turned, whole, worth)

COMMUTATOR = web_of(2, [(1, 2, -1, -2)])
WHOLE = (2, 1, ((0, 1, 0), (0, 2, 0)))
# The rows of these webs have 2000 and 2001 pictures.
JUST = web_of(4, [(4, 3, 3, -1, 3, 4, 3, 2, 3, 4)])
OVER = web_of(4, [(-1, -1, 4, 3, 1, 4, 4, 2, 4), (3, -1, 4)])


def own_share_by_houses(web, places):
    """Return the own share of a web, by all houses gone through one by one."""
    rows = free_list(web)
    houses = houses_of(web[0], places)
    many = 0
    for house in houses:
        for place in range(places):
            if all(lead(house, row, place) == place for row in rows):
                many += is_free_naively(web, house_web(web[0], house, place))
    return fractions.Fraction(many, len(houses))


def product_by_houses(deeds, one, other, places):
    """Return the mean of the product of what two rows keep, by all houses gone through one by one."""
    counts = zip(kept_counts(deeds, [one], places), kept_counts(deeds, [other], places))
    products = [first * second for first, second in counts]
    return fractions.Fraction(sum(products), len(products))


class OwnShareTest(unittest.TestCase):
    def test_wrong_values(self):
        check_first_wrong(self, own_share, {"web": COMMUTATOR, "places": 5},
                          {"web": (BadWeb, not_webs()), "places": (BadPlaces, NOT_PLACES)})

    def test_too_many(self):
        for wrong in (0, True, None):
            with self.assertRaises(BadPlaces):
                own_share(OVER, wrong)
        for web in (OVER, web_of(2, [(1, 1, 2) * 60])):
            with self.assertRaises(TooMany) as caught:
                own_share(web, 5)
            self.assertEqual(caught.exception.most, 2000)
        self.assertEqual(own_share(JUST, 2), 1)

    def test_examples_by_hand(self):
        for places in (2, 3, 4, 7, 1000000):
            first, second = own_share(COMMUTATOR, places), own_share(WHOLE, places)
            self.assertEqual(worth(first), 1 + fractions.Fraction(1, places * (places - 1)))
            self.assertEqual(worth(second), fractions.Fraction(1, places))
            self.assertEqual(worth(first) + worth(second), fractions.Fraction(places, places - 1))

    def test_by_all_houses(self):
        for web in some_webs(60, 5, "own shares"):
            for places in (1, 2, 3) if web[0] < 3 else (1, 2):
                found = own_share(web, places)
                self.assertIs(is_number(found), True)
                self.assertEqual(worth(found), own_share_by_houses(web, places), (web, places))
        for row in plain_rows(2, 3) + [(1, 2, -1, -2), (1, 1, 2, 2), (1, 1, 2, -1)]:
            web = web_of(2, [row])
            self.assertEqual(worth(own_share(web, 3)), own_share_by_houses(web, 3), row)
        self.assertEqual(worth(own_share(COMMUTATOR, 4)), own_share_by_houses(COMMUTATOR, 4))

    def test_sum_of_the_shares_of_pictures_in_which_it_is_free(self):
        for web in some_webs(60, 5, "sum of shares"):
            lot = [picture for picture in naive_pictures(web) if is_free_naively(web, picture)]
            for places in (1, 2, 3, 4, 9, 1000000):
                self.assertEqual(worth(own_share(web, places)), sum(worth(share(picture, places)) for picture in lot))

    def test_the_mean_is_the_sum_over_the_bound_webs(self):
        for deeds, rows in some_lists(100, 3, "means by own shares"):
            web = web_of(deeds, rows)
            if web[1] <= 7:
                lot = bound_webs(web)
                for places in (1, 2, 3, 5, 1000000):
                    self.assertEqual(sum(worth(own_share(other, places)) for other in lot),
                                     worth(mean(deeds, rows, places)))

    def test_without_ties(self):
        for deeds in range(1, 5):
            for places in (1, 2, 60, 1000000):
                self.assertEqual(own_share((deeds, 1, ()), places), places)

    def test_free_in_the_whole_or_not(self):
        seen = set()
        for web in some_webs(80, 5, "free in the whole"):
            is_free = is_free_naively(web, whole(web[0]))
            seen.add(is_free)
            for places in (1, 2, 3, 10):
                right = fractions.Fraction(places) ** (1 - rank(web))
                if is_free:
                    self.assertEqual(worth(own_share(web, places)), right)
            if not is_free:
                self.assertEqual(own_share(web, 1), 0)
        self.assertEqual(seen, {True, False})

    def test_as_near_as_wanted(self):
        for web in some_webs(40, 5, "near"):
            if rank(web):
                near = worth(own_share(web, 1000000)) * 1000000 ** (rank(web) - 1)
                self.assertLess(abs(near - 1), fractions.Fraction(1, 1000))
        for row in plain_rows(2, 4)[1:]:
            told = depth(2, row)
            if told is not None:
                near = (worth(own_share(web_of(2, [row]), 1000000)) - 1) * 1000000 ** (told[0] - 1)
                self.assertLess(abs(near), fractions.Fraction(1, 1000))

    def test_renamed_and_turned(self):
        source = random.Random("own shares renamed")
        for web in some_webs(40, 4, "own shares renamed"):
            images = drawn_renaming(source, web[0], 7)
            other = [tell(images, row) for row in free_list(web)]
            lot = [turn_naively(web, source.choice(plain_rows(web[0], 2)))]
            if len(other) <= 6 and all(len(row) <= 200 for row in other):
                lot.append(web_of(web[0], other))
            for other in lot:
                if other[1] <= 7:
                    for places in (1, 2, 3, 20):
                        self.assertEqual(own_share(other, places), own_share(web, places))


class MeanProductTest(unittest.TestCase):
    def test_wrong_values(self):
        for one, other in (((1, 2), (2,)), ((), ())):
            check_first_wrong(self, mean_product, {"deeds": 2, "one": one, "other": other, "places": 5},
                              {"deeds": (BadDeeds, NOT_DEEDS), "one": (BadRow, not_rows(2)),
                               "other": (BadRow, not_rows(2)), "places": (BadPlaces, NOT_PLACES)})

    def test_ten_letters_and_eleven(self):
        for one, other in (((1,) * 10, ()), ((), (1,) * 10), ((1,) * 5, (-1,) * 5), ((1, -1) * 100, (1, 2) * 5),
                           ((1, 1, 2, -2, -1, -1), (1,) * 10)):
            self.assertIs(is_number(mean_product(2, one, other, 3)), True)
        for one, other in (((1,) * 11, ()), ((), (1,) * 11), ((1,) * 5, (-1,) * 6), ((1, 2) * 50, (1, 2) * 5),
                           ((1,) * 200, (2,) * 200)):
            with self.assertRaises(TooMany) as caught:
                mean_product(2, one, other, 3)
            self.assertEqual(caught.exception.most, 10)
            with self.assertRaises(BadPlaces):
                mean_product(2, one, other, 0)

    def test_examples_by_hand(self):
        for deeds in (1, 2, 4):
            for x in (1, -1, deeds):
                for places in (3, 4, 5, 100, 1000000):
                    self.assertEqual(mean_product(deeds, (x,), (x, x), places), 3)
                    self.assertEqual(mean(deeds, [(x,)], places), 1)
                    self.assertEqual(mean(deeds, [(x, x)], places), 2)
                for places in (4, 5, 100, 1000000):
                    self.assertEqual(mean_product(deeds, (x, x), (x, x), places), 7)
        self.assertNotEqual(mean_product(1, (1,), (1, 1), 2), 3)
        self.assertNotEqual(mean_product(1, (1, 1), (1, 1), 3), 7)

    def test_by_all_houses(self):
        for deeds in (1, 2, 3):
            lot = list(zip(some_rows(deeds, 40, 5, f"one {deeds}"), some_rows(deeds, 40, 5, f"other {deeds}")))
            for one, other in lot:
                for places in (1, 2, 3, 4) if deeds == 1 else (1, 2, 3) if deeds == 2 else (1, 2):
                    found = mean_product(deeds, one, other, places)
                    self.assertIs(is_number(found), True)
                    self.assertEqual(worth(found), product_by_houses(deeds, one, other, places), (one, other))
        for one, other in itertools.product(plain_rows(2, 2), repeat=2):
            self.assertEqual(worth(mean_product(2, one, other, 3)), product_by_houses(2, one, other, 3))
        for one, other in (((1, 2), (1, -2)), ((1, 2, -1, -2), (1, 2)), ((1, 1), (2, 2))):
            self.assertEqual(worth(mean_product(2, one, other, 4)), product_by_houses(2, one, other, 4))

    def test_one_place(self):
        for one, other in itertools.product(plain_rows(2, 2), repeat=2):
            self.assertEqual(mean_product(2, one, other, 1), 1)

    def test_facts(self):
        source = random.Random("facts on products")
        for deeds in (1, 2, 3, 4):
            lot = zip(some_rows(deeds, 25, 3, f"first {deeds}"), some_rows(deeds, 25, 3, f"second {deeds}"))
            for one, other in lot:
                images = drawn_renaming(source, deeds, 7)
                first, second = tell(images, one), tell(images, other)
                by, also = source.choice(plain_rows(deeds, 2)), source.choice(plain_rows(deeds, 2))
                first, second = turned(source.choice([first, back(first)]), by), turned(second, also)
                for places in (1, 2, 3, 7, 1000):
                    right = mean_product(deeds, one, other, places)
                    self.assertEqual(mean_product(deeds, other, one, places), right)
                    if len(first) + len(second) <= 10:
                        self.assertEqual(mean_product(deeds, first, second, places), right)

    def test_both_alike(self):
        for row in plain_rows(2, 3) + some_rows(4, 20, 5, "alike"):
            for places in (1, 2, 3, 4, 50):
                self.assertEqual(mean_product(4, row, row, places), mean_square(4, row, places))

    def test_without_a_common_deed(self):
        source = random.Random("product without a common deed")
        for _ in range(40):
            one = tuple(source.choice([1, -1, 3]) for _ in range(source.randint(0, 5)))
            other = tuple(source.choice([2, -2, -4]) for _ in range(source.randint(0, 5)))
            for places in (1, 2, 3, 11):
                right = worth(mean(4, [one], places)) * worth(mean(4, [other], places))
                self.assertEqual(worth(mean_product(4, one, other, places)), right)
                self.assertEqual(worth(mean_product(4, one, (), places)), worth(mean(4, [one], places)) * places)
                self.assertEqual(worth(mean_product(4, (), other, places)), worth(mean(4, [other], places)) * places)

    def test_what_is_left_as_places_grow(self):
        lot = [row for row in plain_rows(2, 3) if row] + [(1,) * 4, (1,) * 6, (1, 2) * 2, (1, 2, -1, -2), (2, 1) * 2]
        for one, other in itertools.product(lot, repeat=2):
            if len(one) + len(other) <= 10:
                (r, a), (s, b) = root(2, one), root(2, other)
                is_one = naive_ring(r) in (naive_ring(s), naive_ring(back(s)))
                right = sum(k for k in range(1, min(a, b) + 1) if a % k == b % k == 0) if is_one else 0
                left = worth(mean_product(2, one, other, 1000000))
                left -= worth(mean(2, [one], 1000000)) * worth(mean(2, [other], 1000000))
                self.assertLess(abs(left - right), fractions.Fraction(1, 1000), (one, other))


if __name__ == "__main__":
    unittest.main()

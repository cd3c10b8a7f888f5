"""Points 8 and 21 to 24: houses, where they lead, what is kept, in all of them and in the least one."""

import itertools
import math
import unittest

from meankept.errors import BadDeeds, BadHouse, BadPlace, BadPlaces, BadRow, BadRows, TooMany
from meankept.houses import is_house, kept, least_house, led, total_kept
from meankept.rows import beside, sums, times_row, undone
from tests.helpers import (NOT_DEEDS, NOT_WHOLES, afresh, all_rows, any_values, back, check_first_wrong,
                           houses_of, lead, not_houses, not_in, not_lists, not_rows, plain_rows, some_rows)

HOUSE = ((1, 2, 0), (0, 2, 1))
MOST_OF_PLACES = {1: 7, 2: 5, 3: 4, 4: 3}


def house_60(deeds):
    """Return a house of 60 places, the deed x leads each place x places on."""
    return tuple(tuple((place + deed) % 60 for place in range(60)) for deed in range(1, deeds + 1))


def naive_total(deeds, rows, places):
    """Return the sum of how many places rows keep, house by house and place by place."""
    return sum(all(lead(house, row, place) == place for row in rows)
               for house in houses_of(deeds, places) for place in range(places))


def naive_least(deeds, row, most):
    """Return the least number of places, up to most, of a house with a place that row moves, else None."""
    for places in range(1, most + 1):
        for house in houses_of(deeds, places):
            if any(lead(house, row, place) != place for place in range(places)):
                return places
    return None


def image_of(row, images):
    """Return a row with each deed exchanged for its image."""
    found = ()
    for letter in row:
        found = afresh(found + (images[letter - 1] if letter > 0 else back(images[-letter - 1])))
    return found


class IsHouseTest(unittest.TestCase):
    def test_houses(self):
        for deeds, places in ((1, 1), (1, 4), (2, 3), (3, 2), (4, 2)):
            for house in houses_of(deeds, places):
                self.assertIs(is_house(deeds, house), True, house)
                for other in (1, 2, 3, 4):
                    self.assertIs(is_house(other, house), other == deeds, (other, house))

    def test_numbers_of_places(self):
        for deeds in (1, 2, 3, 4):
            for places in (1, 2, 59, 60):
                house = (tuple(range(places)),) * (deeds - 1) + (tuple(reversed(range(places))),)
                self.assertIs(is_house(deeds, house), True)
            self.assertIs(is_house(deeds, (tuple(range(61)),) * deeds), False)
            self.assertIs(is_house(deeds, ((),) * deeds), False)

    def test_unlike_numbers_of_places(self):
        self.assertIs(is_house(2, ((0, 1), (0, 1, 2))), False)
        self.assertIs(is_house(2, ((0, 1, 2), (0, 1))), False)
        self.assertIs(is_house(3, ((0,), (0,), (0, 1))), False)

    def test_all_tuples_of_small_wholes(self):
        for order in itertools.product(range(-1, 4), repeat=3):
            right = sorted(order) == [0, 1, 2]
            self.assertIs(is_house(1, (order,)), right, order)
            self.assertIs(is_house(2, ((2, 0, 1), order)), right, order)

    def test_any_value(self):
        for deeds in (2, 3, 4):
            for value in not_houses(deeds):
                self.assertIs(is_house(deeds, value), False, value)
        for value in any_values() + [(), 0, ((),), ((0, 0),), ((1,),), ((True, False),), ([0],), [(0,)]]:
            self.assertIs(is_house(1, value), False, value)

    def test_bad_deeds_ahead_of_any_value(self):
        for deeds in NOT_DEEDS:
            for value in any_values() + [HOUSE, ()]:
                with self.assertRaises(BadDeeds):
                    is_house(deeds, value)
                with self.assertRaises(BadDeeds):
                    is_house(value=value, deeds=deeds)


class WrongValuesTest(unittest.TestCase):
    def test_led(self):
        check_first_wrong(self, led, {"deeds": 2, "house": HOUSE, "row": (1, 2), "place": 2},
                          {"deeds": (BadDeeds, NOT_DEEDS), "house": (BadHouse, not_houses(2)),
                           "row": (BadRow, not_rows(2)), "place": (BadPlace, not_in(3))})

    def test_kept(self):
        check_first_wrong(self, kept, {"deeds": 2, "house": HOUSE, "rows": [(1, 2)]},
                          {"deeds": (BadDeeds, NOT_DEEDS), "house": (BadHouse, not_houses(2)),
                           "rows": (BadRows, not_lists(2))})

    def test_total_kept(self):
        check_first_wrong(self, total_kept, {"deeds": 2, "rows": [(1, 2)], "places": 3},
                          {"deeds": (BadDeeds, NOT_DEEDS), "rows": (BadRows, not_lists(2)),
                           "places": (BadPlaces, NOT_WHOLES + [0, -1, 1000001, 10 ** 29, -10 ** 29])})

    def test_least_house(self):
        check_first_wrong(self, least_house, {"deeds": 2, "row": (1, 2)},
                          {"deeds": (BadDeeds, NOT_DEEDS), "row": (BadRow, not_rows(2))})

    def test_houses_of_other_numbers_of_deeds(self):
        for deeds, house in ((1, HOUSE), (3, HOUSE), (2, HOUSE[:1]), (2, HOUSE + HOUSE[:1])):
            with self.assertRaises(BadHouse):
                led(deeds, house, (), 0)
            with self.assertRaises(BadHouse):
                kept(deeds, house, [])

    def test_the_last_place(self):
        for deeds in (1, 2, 3, 4):
            house = house_60(deeds)
            self.assertEqual(led(deeds, house, (), 59), 59)
            self.assertEqual(led(deeds, house, (), 0), 0)
            for place in (60, -1, True, False, 59 + 10 ** 28):
                with self.assertRaises(BadPlace):
                    led(deeds, house, (), place)
        with self.assertRaises(BadPlace):
            led(1, ((0,),), (), 1)


class LedTest(unittest.TestCase):
    def test_letters(self):
        self.assertEqual([led(2, HOUSE, (1,), place) for place in range(3)], [1, 2, 0])
        self.assertEqual([led(2, HOUSE, (-1,), place) for place in range(3)], [2, 0, 1])
        self.assertEqual([led(2, HOUSE, (2,), place) for place in range(3)], [0, 2, 1])
        self.assertEqual([led(2, HOUSE, (-2,), place) for place in range(3)], [0, 2, 1])

    def test_the_first_letter_is_first(self):
        self.assertEqual(led(2, HOUSE, (1, 2), 0), 2)
        self.assertEqual(led(2, HOUSE, (2, 1), 0), 1)

    def test_all_small_houses(self):
        for deeds, places, size in ((1, 4, 4), (2, 3, 3), (3, 2, 3), (4, 2, 2)):
            for house in houses_of(deeds, places):
                for row in all_rows(deeds, size)[:150]:
                    for place in range(places):
                        self.assertEqual(led(deeds, house, row, place), lead(house, row, place))

    def test_a_row_and_its_plain_row_lead_to_one_place(self):
        for row in some_rows(2, 80, 200, "led"):
            for place in range(3):
                right = lead(HOUSE, row, place)
                self.assertEqual(led(2, HOUSE, row, place), right)
                self.assertEqual(led(2, HOUSE, afresh(row), place), right)

    def test_undone_leads_back(self):
        house = house_60(3)
        for row in some_rows(3, 40, 200, "back"):
            for place in (0, 17, 59):
                self.assertEqual(led(3, house, back(row), led(3, house, row, place)), place)

    def test_longest_rows(self):
        self.assertEqual(led(1, house_60(1), (1,) * 200, 5), 25)
        self.assertEqual(led(4, house_60(4), (-4,) * 200, 0), 40)


class KeptTest(unittest.TestCase):
    def test_no_rows_keep_all(self):
        for places in (1, 2, 60):
            house = (tuple(reversed(range(places))),)
            self.assertEqual(kept(1, house, []), list(range(places)))
            self.assertEqual(kept(1, house, ()), list(range(places)))
            self.assertEqual(kept(1, house, [()]), list(range(places)))
            self.assertEqual(kept(1, house, [()] * 6), list(range(places)))

    def test_some(self):
        self.assertEqual(kept(2, HOUSE, [(2,)]), [0])
        self.assertEqual(kept(2, HOUSE, [(1,)]), [])
        self.assertEqual(kept(2, HOUSE, [(1, 1, 1)]), [0, 1, 2])
        self.assertEqual(kept(2, HOUSE, [(1, 1, 1), (2, 2), (2,)]), [0])
        self.assertEqual(kept(2, HOUSE, [(1, -1), (2,)]), [0])
        self.assertEqual(kept(1, ((1, 0, 2, 4, 3, 5),), [(1,)]), [2, 5])

    def test_all_small_houses(self):
        rows = plain_rows(2, 2)
        for house in houses_of(2, 3):
            for one, other in itertools.product(rows, repeat=2):
                right = [place for place in range(3) if lead(house, one, place) == lead(house, other, place) == place]
                self.assertEqual(kept(2, house, [one, other]), right)

    def test_six_rows(self):
        house = house_60(2)
        rows = [(1,) * 60, (2,) * 30, (1, 1, -2), (1, 2, -1, -2), (), (1, -1)]
        self.assertEqual(kept(2, house, rows), list(range(60)))
        self.assertEqual(kept(2, house, rows[:5] + [(1,)]), [])
        self.assertEqual(kept(2, house, tuple(rows)), list(range(60)))

    def test_a_new_list_each_time(self):
        rows = [(2,)]
        found = kept(2, HOUSE, rows)
        found.append(7)
        self.assertEqual(kept(2, HOUSE, rows), [0])
        self.assertEqual(rows, [(2,)])


class TotalKeptTest(unittest.TestCase):
    def test_examples_by_hand(self):
        self.assertEqual(total_kept(1, [(1,)], 3), 6)
        self.assertEqual(total_kept(2, [(1, 2, -1, -2)], 3), 54)

    def test_through_all_houses(self):
        for deeds, places, size in ((1, 1, 4), (1, 2, 4), (1, 5, 4), (2, 1, 3), (2, 2, 3), (2, 3, 3), (3, 2, 2),
                                    (4, 2, 2)):
            for row in all_rows(deeds, size):
                self.assertEqual(total_kept(deeds, [row], places), naive_total(deeds, [row], places), row)

    def test_through_all_houses_for_several_rows(self):
        for deeds, places in ((1, 4), (2, 2), (2, 3), (3, 2)):
            rows = some_rows(deeds, 120, 5, f"several {deeds} {places}")
            for at in range(0, 120, 6):
                for many in (0, 1, 2, 3, 6):
                    lot = rows[at:at + many]
                    self.assertEqual(total_kept(deeds, lot, places), naive_total(deeds, lot, places), lot)

    def test_through_as_many_houses_as_there_may_be(self):
        for deeds, places in ((1, 7), (2, 5), (3, 4), (4, 3)):
            one, other = [row for row in some_rows(deeds, 20, 6, f"most {deeds}") if len(row) > 3][:2]
            for lot in ([one], [one, other], [other[:2], one[:3], other]):
                self.assertEqual(total_kept(deeds, lot, places), naive_total(deeds, lot, places), lot)

    def test_long_rows_through_all_houses(self):
        for deeds, places in ((1, 4), (2, 3), (3, 3), (4, 2)):
            rows = some_rows(deeds, 8, 200, f"long {deeds}") + [(1,) * 200, (1, deeds) * 100]
            for lot in [[row] for row in rows] + [rows[:2], rows[2:8]]:
                self.assertEqual(total_kept(deeds, lot, places), naive_total(deeds, lot, places), lot)

    def test_no_rows(self):
        for deeds, most in MOST_OF_PLACES.items():
            for places in range(1, most + 1):
                many = places * math.factorial(places) ** deeds
                self.assertEqual(total_kept(deeds, [], places), many)
                self.assertEqual(total_kept(deeds, (), places), many)
                self.assertEqual(total_kept(deeds, [()] * 6, places), many)

    def test_one_place(self):
        for deeds in (1, 2, 3, 4):
            self.assertEqual(total_kept(deeds, [(deeds,), (1,)], 1), 1)

    def test_the_first_number_of_places_with_too_many_houses(self):
        for deeds, most in MOST_OF_PLACES.items():
            for rows in ([], [(1,)], [(deeds, 1), (1,)]):
                # A letter keeps one place in the mean, two unlike ones keep 1 / N.
                many = math.factorial(most) ** deeds
                self.assertIs(type(total_kept(deeds, rows, most)), int)
                self.assertEqual(total_kept(deeds, [(1,)], most), many)
                for places in (most + 1, most + 2, 60, 1000, 999999, 1000000):
                    with self.assertRaises(TooMany) as caught:
                        total_kept(deeds, rows, places)
                    self.assertEqual(caught.exception.most, 20000)
                for places in (1000001, 10 ** 29, 0):
                    with self.assertRaises(BadPlaces):
                        total_kept(deeds, rows, places)

    def test_turned_undone_reordered_and_told_twice(self):
        for deeds, places in ((2, 3), (3, 2), (2, 4)):
            rows = some_rows(deeds, 30, 4, f"facts {places}")
            for one, other, by in zip(rows, rows[1:], rows[2:]):
                right = total_kept(deeds, [one, other], places)
                for lot in ([afresh(by + one + back(by)), afresh(by + other + back(by))], [back(one), other],
                            [other, one], [one, other, one], [one, afresh(other + one)],
                            [afresh(one + other), other], [other, back(one), other, ()]):
                    self.assertEqual(total_kept(deeds, lot, places), right, lot)

    def test_renamed(self):
        for images in (((1,), (2, 1)), ((1,), (1, 2)), ((2,), (1,)), ((-1,), (2,)), ((1, 2), (1, 2, 2)),
                       ((1,), (1, 2, -1))):
            rows = some_rows(2, 30, 4, "renamed")
            for one, other in zip(rows, rows[1:]):
                lot = [image_of(one, images), image_of(other, images)]
                self.assertEqual(total_kept(2, lot, 3), total_kept(2, [one, other], 3))
                self.assertEqual(total_kept(2, lot[:1], 4), total_kept(2, [one], 4))

    def test_one_deed_more(self):
        for row in plain_rows(2, 4):
            for places in (1, 2, 3):
                less = total_kept(2, [row], places)
                self.assertEqual(total_kept(3, [row], places), less * math.factorial(places))
                self.assertEqual(less % math.factorial(places), 0)
        for row in plain_rows(1, 5):
            for places in (1, 2, 3, 4, 5):
                less = total_kept(1, [row], places)
                self.assertEqual(total_kept(2, [row], places), less * math.factorial(places))
                self.assertEqual(less % math.factorial(places), 0)

    def test_many_times_a_letter_keeps_as_many_as_divisors(self):
        for many in range(1, 13):
            for places in range(1, 8):
                divisors = len([x for x in range(1, places + 1) if many % x == 0])
                self.assertEqual(total_kept(1, [(1,) * many], places), divisors * math.factorial(places))


class LeastHouseTest(unittest.TestCase):
    def check(self, deeds, row):
        """Check all that can be seen of the least house of a row, and return its places."""
        found = least_house(deeds, row)
        if afresh(row) == ():
            self.assertIsNone(found)
            return None
        self.assertIs(type(found), tuple)
        places, house, place = found
        self.assertIs(type(places), int)
        self.assertIs(type(place), int)
        self.assertTrue(is_house(deeds, house))
        self.assertTrue(all(len(order) == places for order in house))
        self.assertTrue(0 <= place < places)
        self.assertNotEqual(lead(house, row, place), place)
        return places

    def test_examples_by_hand(self):
        places, house, place = least_house(1, (1, 1))
        self.assertEqual(places, 3)
        self.assertIn(house, [((1, 2, 0),), ((2, 0, 1),)])
        self.assertIn(place, [0, 1, 2])
        self.assertEqual(self.check(2, (1, 2, -1, -2)), 3)

    def test_nothing_is_moved_by_nothing(self):
        for deeds in (1, 2, 3, 4):
            for row in ((), (1, -1), (-deeds, 1, -1, deeds), (1, -1) * 100):
                self.assertIsNone(least_house(deeds, row))

    def test_all_short_rows(self):
        for deeds, size in ((1, 12), (2, 5), (3, 3), (4, 2)):
            for row in plain_rows(deeds, size) if deeds > 1 else [(x,) * n for n in range(13) for x in (1, -1)]:
                places = self.check(deeds, row)
                if places is not None:
                    most = {1: 5, 2: 4, 3: 3, 4: 3}[deeds]
                    self.assertEqual(places, naive_least(deeds, row, most), row)

    def test_the_commutator_of_squares_needs_four_places(self):
        row = (1, 1, 2, 2, -1, -1, -2, -2)
        self.assertEqual(self.check(2, row), 4)
        self.assertIsNone(naive_least(2, row, 3))
        for wide in ((1, 1, 3, 2, -3, -1, -1, 3, -2, -3), (1, 1, 2, 2, 3, -2, -2, -1, -1, -3)):
            places = self.check(3, wide)
            self.assertIsNone(naive_least(3, wide, places - 1))

    def test_twelve_letters_and_thirteen(self):
        for deeds, row in ((1, (1,) * 12), (2, (1, 2) * 6), (2, (1, 1, 2, 2, -1, -1, -2, -2, 1, 1, 1, 1)),
                           (4, (1, 2, 3, 4, -1, -2, -3, -4, 1, 2, 3, 4))):
            self.check(deeds, row)
            for longer in (row + row[-1:], row[:1] + row, row * 2):
                with self.assertRaises(TooMany) as caught:
                    least_house(deeds, longer)
                self.assertEqual(caught.exception.most, 12)

    def test_the_plain_row_counts(self):
        row = (1, 1, 2, 2, -1, -1, -2, -2, 1, 1, 2, 2)
        for longer in (row + (1, -1), (2, -2) * 90 + row, row[:5] + (2, -2) * 50 + row[5:]):
            self.assertEqual(self.check(2, longer), self.check(2, row))
        self.assertEqual(self.check(1, (1, -1) * 94 + (1,) * 12), 5)
        with self.assertRaises(TooMany):
            least_house(1, (1, -1) * 93 + (1,) * 13)

    def test_wrong_ones_ahead_of_too_many(self):
        with self.assertRaises(BadDeeds):
            least_house(5, (1,) * 13)
        with self.assertRaises(BadRow):
            least_house(1, (1,) * 13 + (2,))
        with self.assertRaises(BadRow):
            least_house(1, (1,) * 201)

    def test_many_times_a_letter(self):
        for many in range(1, 13):
            right = min(x for x in range(2, 14) if many % x != 0)
            for letter in (1, -1, 2, -2):
                self.assertEqual(self.check(2, (letter,) * many), right)

    def test_two_places_exactly_if_a_sum_is_odd(self):
        for row in plain_rows(2, 5)[1:] + [x for x in map(afresh, some_rows(3, 150, 12, "odd")) if x]:
            found = sums(3, row)
            places = self.check(3, row)
            self.assertEqual(places == 2, any(x % 2 for x in found), row)
            for whole in range(2, 14):
                if any(x % whole for x in found):
                    self.assertLessEqual(places, whole)
            self.assertLessEqual(places, len(row) + 1)

    def test_turned_undone_and_renamed(self):
        for row in plain_rows(2, 4)[1:]:
            places = self.check(2, row)
            self.assertEqual(self.check(2, undone(2, row)), places)
            for by in ((1,), (2, 1), (-2, 1, 1)):
                self.assertEqual(self.check(2, beside(2, beside(2, by, row), undone(2, by))), places)
            for images in (((1,), (2, 1)), ((2,), (-1,)), ((1, 2), (1, 2, 2))):
                self.assertEqual(self.check(2, image_of(row, images)), places)

    def test_total_kept_is_full_exactly_below_it(self):
        for row in plain_rows(2, 4)[1:] + [(1, 1, 2, 2, -1, -1, -2, -2), (1,) * 12]:
            places = self.check(2, row)
            for many in (1, 2, 3, 4):
                is_full = total_kept(2, [row], many) == many * math.factorial(many) ** 2
                self.assertEqual(is_full, many < places, row)

    def test_divisors(self):
        for row in ((1,), (1, 2), (1, 2, -1, -2), (1, -2)):
            most = 12 // len(row)
            for one, other in itertools.product(range(1, most + 1), repeat=2):
                if other % one == 0:
                    self.assertLessEqual(self.check(2, times_row(2, row, one)),
                                         self.check(2, times_row(2, row, other)))


if __name__ == "__main__":
    unittest.main()

"""Point 34: full webs, the houses that go with webs, and what is left of a row."""

import itertools
import math
import random
import unittest

from meankept.errors import BadDeeds, BadHouse, BadPlace, BadPlaces, BadRow, BadWeb, NotFull, TooMany
from meankept.full import filled, full_webs, house_web, is_full, many_full, rest
from meankept.houses import is_house, kept
from meankept.webs import is_over, is_web, made_power, makes, rank, ways, web_of
from tests.helpers import (NOT_DEEDS, NOT_WHOLES, afresh, back, check_first_wrong, follow, houses_of, lead,
                           not_houses, not_in, not_rows, not_webs, plain_rows, some_lists, some_rows, step)

NOTHING = (2, 1, ())
WHOLE = (2, 1, ((0, 1, 0), (0, 2, 0)))
PAIR = (2, 2, ((0, 1, 1), (0, 2, 0), (1, 1, 0), (1, 2, 1)))
FITS = {1: 5, 2: 5, 3: 3, 4: 2}


def count(deeds, places):
    """Return how many full webs of so many places there are, by the sums of point 34."""
    def power(many):
        return math.factorial(many) ** (deeds - 1)
    return places * power(places) - sum(power(places - k) * count(deeds, k) for k in range(1, places))


def full_ones():
    """Return the full webs of all sizes that are few enough to go through."""
    return [web for deeds, places in ((1, 3), (1, 5), (2, 1), (2, 2), (2, 3), (3, 1), (3, 2), (4, 2))
            for web in full_webs(deeds, places)]


class WrongValuesTest(unittest.TestCase):
    def test_a_web_alone(self):
        for function in (is_full, filled):
            check_first_wrong(self, function, {"web": PAIR}, {"web": (BadWeb, not_webs())})

    def test_house_web(self):
        check_first_wrong(self, house_web, {"deeds": 2, "house": ((1, 2, 0), (0, 2, 1)), "place": 2},
                          {"deeds": (BadDeeds, NOT_DEEDS), "house": (BadHouse, not_houses(2)),
                           "place": (BadPlace, not_in(3))})

    def test_rest(self):
        check_first_wrong(self, rest, {"web": PAIR, "row": (1, 2)},
                          {"web": (BadWeb, not_webs()), "row": (BadRow, not_rows(2))})

    def test_rest_tells_not_full_ahead_of_a_wrong_row(self):
        for web in (NOTHING, (2, 1, ((0, 1, 0),)), (2, 2, ((0, 1, 1), (0, 2, 0), (1, 1, 0)))):
            for row in [(), (1,), (3,)] + not_rows(2):
                with self.assertRaises(NotFull):
                    rest(web, row)
        for row in ((3,), (1, -3), (True,)):
            with self.assertRaises(BadRow):
                rest(WHOLE, row)

    def test_full_webs(self):
        check_first_wrong(self, full_webs, {"deeds": 2, "places": 3},
                          {"deeds": (BadDeeds, NOT_DEEDS),
                           "places": (BadPlaces, NOT_WHOLES + [0, 6, -1, 7, 10 ** 29, -10 ** 29])})


class IsFullTest(unittest.TestCase):
    def test_some(self):
        for web, right in ((NOTHING, False), (WHOLE, True), (PAIR, True), ((2, 1, ((0, 1, 0),)), False),
                           ((1, 1, ((0, 1, 0),)), True), ((2, 2, ((0, 1, 1), (0, 2, 0), (1, 1, 0))), False),
                           (web_of(1, [(1,) * 200]), True), (web_of(2, [(1,) * 200]), False)):
            self.assertIs(is_full(web), right, web)

    def test_by_the_ends(self):
        for deeds, rows in some_lists(150, 3, "ends"):
            web = web_of(deeds, rows)
            ends = [end for start, _, goal in web[2] for end in (start, goal)]
            self.assertIs(is_full(web), all(ends.count(place) == 2 * deeds for place in range(web[1])))

    def test_full_exactly_if_each_row_is_made_so_many_times(self):
        webs = [web_of(deeds, rows) for deeds, rows in some_lists(150, 2, "times") if deeds < 3]
        for web in webs + full_webs(2, 3) + full_webs(2, 2):
            rows = plain_rows(web[0], web[1] + 1 if web[1] < 4 else 4)
            if is_full(web):
                self.assertTrue(all(made_power(web, row) is not None for row in rows))
            elif web[1] < 4:
                self.assertTrue(any(made_power(web, row) is None for row in rows), web)


class FilledTest(unittest.TestCase):
    def check(self, web):
        """Check that the filled web is a house with all its ties."""
        house = filled(web)
        deeds, places, ties = web
        self.assertTrue(is_house(deeds, house))
        self.assertEqual(len(house[0]), places)
        for start, deed, goal in ties:
            self.assertEqual(house[deed - 1][start], goal)
        return house

    def test_some(self):
        self.assertEqual(filled(NOTHING), ((0,), (0,)))
        self.assertEqual(filled(WHOLE), ((0,), (0,)))
        self.assertEqual(filled(PAIR), ((1, 0), (0, 1)))
        self.assertEqual(filled((2, 2, ((0, 1, 1), (0, 2, 0), (1, 1, 0)))), ((1, 0), (0, 1)))

    def test_drawn_webs(self):
        for deeds, rows in some_lists(200, 8, "filled"):
            web = web_of(deeds, rows)
            if web[1] <= 60:
                house = self.check(web)
                self.assertIn(0, kept(deeds, house, rows))
                self.assertIs(is_over(house_web(deeds, house, 0), web), True)

    def test_full_webs_are_their_houses(self):
        for web in full_ones():
            self.assertEqual(house_web(web[0], self.check(web), 0), web)

    def test_sixty_places_and_more(self):
        for many in (59, 60):
            self.check(web_of(1, [(1,) * many]))
            self.check(web_of(3, [(1, 2, 3, 1) * (many // 4) + (2,) * (many % 4)]))
        self.check(web_of(2, [(1,) * 59 + (2,) + (-1,) * 59]))
        for web in (web_of(1, [(1,) * 61]), web_of(2, [(1, 2) * 100]), web_of(2, [(1,) * 60 + (2,) + (-1,) * 60])):
            self.assertGreater(web[1], 60)
            with self.assertRaises(TooMany) as caught:
                filled(web)
            self.assertEqual(caught.exception.most, 60)


class HouseWebTest(unittest.TestCase):
    def test_it_makes_what_keeps_the_place(self):
        for deeds, places, size in ((1, 4, 6), (2, 2, 5), (2, 3, 4), (3, 2, 3)):
            rows = plain_rows(deeds, size)
            for house in houses_of(deeds, places):
                for place in range(places):
                    web = house_web(deeds, house, place)
                    self.assertTrue(is_web(web) and is_full(web))
                    for row in rows[::3]:
                        self.assertIs(makes(web, row), lead(house, row, place) == place, (house, row))

    def test_places_are_those_that_can_be_reached(self):
        house = ((1, 0, 3, 2, 4), (0, 1, 2, 4, 3))
        self.assertEqual([house_web(2, house, place)[1] for place in range(5)], [2, 2, 3, 3, 3])
        self.assertEqual(house_web(2, house, 0), PAIR)

    def test_as_told_step_by_step(self):
        source = random.Random("houses")
        for _ in range(60):
            deeds, places = source.randint(1, 4), source.randint(1, 9)
            house = tuple(tuple(source.sample(range(places), places)) for _ in range(deeds))
            first = source.randrange(places)
            numbers = [first]
            for place in numbers:
                for letter in [x for deed in range(1, deeds + 1) for x in (deed, -deed)]:
                    goal = step(house, letter, place)
                    if goal not in numbers:
                        numbers.append(goal)
            ties = sorted((numbers.index(place), deed, numbers.index(house[deed - 1][place]))
                          for place in numbers for deed in range(1, deeds + 1))
            self.assertEqual(house_web(deeds, house, first), (deeds, len(numbers), tuple(ties)))

    def test_one_place_and_sixty(self):
        self.assertEqual(house_web(2, ((0,), (0,)), 0), WHOLE)
        house = (tuple((place + 1) % 60 for place in range(60)),)
        for place in (0, 1, 59):
            self.assertEqual(house_web(1, house, place), web_of(1, [(1,) * 60]))
        with self.assertRaises(BadPlace):
            house_web(1, house, 60)


class RestTest(unittest.TestCase):
    def test_some(self):
        self.assertEqual([rest(PAIR, row) for row in ((), (1,), (2,), (1, 2), (1, 1), (-1,), (1, -1))],
                         [(), (1,), (), (1,), (), (1,), ()])
        self.assertEqual(rest(WHOLE, (1, 2) * 100), ())

    def test_each_row_is_made_and_then_a_way_in_one_manner(self):
        for web in full_ones():
            found = ways(web)
            for row in some_rows(web[0], 12, 9, "rest"):
                way = rest(web, row)
                fits = [other for other in found if follow(web, afresh(row + back(other))) == 0]
                self.assertEqual(fits, [way])
                self.assertEqual(way, found[follow(web, row)])


class FullWebsTest(unittest.TestCase):
    def test_as_many_as_the_sums_tell(self):
        self.assertEqual([count(2, places) for places in range(1, 6)], [1, 3, 13, 71, 461])
        for deeds, most in FITS.items():
            for places in range(1, most + 1):
                webs = full_webs(deeds, places)
                self.assertIs(type(webs), list)
                self.assertEqual(len(webs), count(deeds, places))
                self.assertEqual(webs, sorted(webs))
                self.assertEqual(len(set(webs)), len(webs))
                for web in webs:
                    self.assertTrue(is_web(web) and is_full(web))
                    self.assertEqual(web[:2], (deeds, places))
                    self.assertEqual(rank(web), 1 + places * (deeds - 1))

    def test_how_many_there_are_also_where_they_are_too_many(self):
        for deeds in (1, 2, 3, 4):
            for places in range(1, 6):
                self.assertEqual(many_full(deeds, places), count(deeds, places))

    def test_some(self):
        self.assertEqual(full_webs(2, 1), [WHOLE])
        self.assertEqual(full_webs(2, 2), [(2, 2, ((0, 1, 0), (0, 2, 1), (1, 1, 1), (1, 2, 0))), PAIR,
                                           (2, 2, ((0, 1, 1), (0, 2, 1), (1, 1, 0), (1, 2, 0)))])
        for places in range(1, 6):
            self.assertEqual(full_webs(1, places), [web_of(1, [(1,) * places])])

    def test_all_of_them(self):
        # Each full web of so many places is one of these: out of all ties that could be.
        for deeds, places in ((1, 2), (1, 3), (2, 2), (2, 3), (3, 2)):
            found = []
            for house in houses_of(deeds, places):
                ties = sorted((place, at + 1, goal) for at, order in enumerate(house)
                              for place, goal in enumerate(order))
                if is_web((deeds, places, tuple(ties))):
                    found.append((deeds, places, tuple(ties)))
            self.assertEqual(full_webs(deeds, places), sorted(found))

    def test_too_many(self):
        for deeds, most in FITS.items():
            for places in range(most + 1, 6):
                self.assertGreater(count(deeds, places), 500)
                with self.assertRaises(TooMany) as caught:
                    full_webs(deeds, places)
                self.assertEqual(caught.exception.most, 500)
            for places in (0, 6, True):
                with self.assertRaises(BadPlaces):
                    full_webs(deeds, places)

    def test_a_new_list_each_time(self):
        found = full_webs(2, 2)
        found.clear()
        self.assertEqual(len(full_webs(2, 2)), 3)

    def test_one_house_for_each_way_to_number_the_other_places(self):
        for deeds, places in ((2, 3), (3, 2), (1, 4)):
            seen = {}
            for house in houses_of(deeds, places):
                web = house_web(deeds, house, 0)
                if web[1] == places:
                    seen[web] = seen.get(web, 0) + 1
            self.assertEqual(sorted(seen), full_webs(deeds, places))
            self.assertEqual(set(seen.values()), {math.factorial(places - 1)})


class PlainRowsTest(unittest.TestCase):
    def test_products_of_two_rests(self):
        for web in full_webs(2, 3):
            for one, other in itertools.product(plain_rows(2, 2), repeat=2):
                self.assertEqual(rest(web, afresh(one + other)), rest(web, afresh(rest(web, one) + other)))


if __name__ == "__main__":
    unittest.main()

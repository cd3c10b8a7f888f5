"""Points 71 to 74: webs laid into one another, joined places, pictures, what a place shows, joint webs."""

import itertools
import math
import random
import unittest
import unittest.mock

from meankept.errors import BadDeeds, BadHouse, BadPlace, BadRows, BadWeb, NotOver, TooMany, UnlikeWebs
from meankept.houses import kept
from meankept.means import share
from meankept.pictures import joined, joint, laid, lies_over, part, pictures, pictures_of, seen
from meankept.webs import free_list, is_over, is_web, makes, rank, web_of, ways
from tests.helpers import (NOT_DEEDS, afresh, check_first_wrong, follow, houses_of, is_sound, join_naively, lead,
                           lots_web, naive_pictures, not_houses, not_in, not_lists, not_webs, number_naively,
                           part_by_ties, some_lists, some_webs, worth)

COMMUTATOR = (2, 4, ((0, 1, 1), (0, 2, 2), (1, 2, 3), (2, 1, 3)))
SEVEN = [(2, 1, ((0, 1, 0), (0, 2, 0))), (2, 2, ((0, 1, 0), (0, 2, 1), (1, 1, 1))),
         (2, 2, ((0, 1, 1), (0, 2, 0), (1, 2, 1))), (2, 2, ((0, 1, 1), (0, 2, 1), (1, 1, 0), (1, 2, 0))),
         (2, 3, ((0, 1, 1), (0, 2, 1), (1, 1, 2), (1, 2, 2))), (2, 3, ((0, 1, 1), (0, 2, 2), (1, 2, 0), (2, 1, 0))),
         COMMUTATOR]
WHOLE = SEVEN[0]
HOUSE = ((1, 2, 0), (0, 2, 1))
# The rows have 2000 and 2001 pictures.
JUST = (4, [(4, 3, 3, -1, 3, 4, 3, 2, 3, 4)])
OVER = (4, [(-1, -1, 4, 3, 1, 4, 4, 2, 4), (3, -1, 4)])


def naive_laid(inner, outer):
    """Return the places that inner is given, by all manners to give them, None if there is no manner."""
    found = []
    for given in itertools.product(range(outer[1]), repeat=inner[1]):
        if given[0] == 0 and all((given[p], x, given[q]) in outer[2] for p, x, q in inner[2]):
            found.append(given)
    assert len(found) <= 1
    return found[0] if found else None


def pairs_of_webs(many, seed):
    """Return pairs of webs of as many deeds, often one over the other."""
    lots = {}
    for web in some_webs(many, 5, seed):
        lots.setdefault(web[0], []).append(web)
        lots[web[0]] += naive_pictures(web)[:3]
    return [pair for lot in lots.values() for pair in itertools.product(lot[:25], repeat=2)]


def sound_partings(web):
    """Return the manners to part the places of a web that are sound, told place by place."""
    found = [()]
    for place in range(web[1]):
        ties = [tie for tie in web[2] if max(tie[0], tie[2]) <= place]
        more = [lots + (lot,) for lots in found for lot in sorted(set(lots) | {place})]
        found = [lots for lots in more if is_sound((web[0], place + 1, ties), lots)]
    return found


class WrongValuesTest(unittest.TestCase):
    def test_two_webs(self):
        for function in (laid, part, lies_over, joint):
            names = ("one", "other") if function in (lies_over, joint) else ("inner", "outer")
            check_first_wrong(self, function, dict(zip(names, (COMMUTATOR, WHOLE))),
                              {name: (BadWeb, not_webs()) for name in names})

    def test_unlike_webs(self):
        for function in (laid, part, lies_over, joint):
            for one, other in itertools.permutations(range(1, 5), 2):
                for webs in (((one, 1, ()), (other, 1, ())), (web_of(one, [(1,)]), web_of(other, [(1,)]))):
                    with self.assertRaises(UnlikeWebs):
                        function(*webs)
            for wrong in not_webs():
                with self.assertRaises(BadWeb):
                    function((1, 1, ()), wrong)

    def test_not_over(self):
        for inner, outer in ((WHOLE, COMMUTATOR), (WHOLE, (2, 1, ())), (web_of(2, [(1,)]), web_of(2, [(1, 1)]))):
            with self.assertRaises(NotOver):
                part(inner, outer)
            self.assertIsNone(laid(inner, outer))
            self.assertIs(lies_over(inner, outer), False)

    def test_joined(self):
        check_first_wrong(self, joined, {"web": COMMUTATOR, "place": 0, "mate": 3},
                          {"web": (BadWeb, not_webs()), "place": (BadPlace, not_in(4)), "mate": (BadPlace, not_in(4))})

    def test_pictures(self):
        check_first_wrong(self, pictures_of, {"web": COMMUTATOR}, {"web": (BadWeb, not_webs())})
        check_first_wrong(self, pictures, {"deeds": 2, "rows": [(1, 2, -1, -2)]},
                          {"deeds": (BadDeeds, NOT_DEEDS), "rows": (BadRows, not_lists(2))})

    def test_seen(self):
        for rows in ([(2,)], []):
            check_first_wrong(self, seen, {"deeds": 2, "rows": rows, "house": HOUSE, "place": 0},
                              {"deeds": (BadDeeds, NOT_DEEDS), "rows": (BadRows, not_lists(2)),
                               "house": (BadHouse, not_houses(2)), "place": (BadPlace, not_in(3))})


class LaidTest(unittest.TestCase):
    def test_without_ties(self):
        for web in some_webs(60, 8, "without ties"):
            self.assertEqual(laid((web[0], 1, ()), web), (0,))
            self.assertEqual(part((web[0], 1, ()), web), (web[0], 1, ()))
            self.assertIs(lies_over((web[0], 1, ()), web), web == (web[0], 1, ()))
            if web[2]:
                self.assertIsNone(laid(web, (web[0], 1, ())))

    def test_by_all_manners(self):
        found = {True: 0, False: 0}
        onto = 0
        for inner, outer in pairs_of_webs(60, "laid"):
            if outer[1] ** inner[1] <= 4000:
                right = naive_laid(inner, outer)
                self.assertEqual(laid(inner, outer), right, (inner, outer))
                self.assertEqual(is_over(outer, inner), right is not None)
                found[right is None] += 1
                self.check_part(inner, outer, right)
                onto += lies_over(inner, outer)
        self.assertGreater(min(found.values()), 200)
        self.assertGreater(onto, 50)

    def check_part(self, inner, outer, given):
        """Check part and lies_over by the places that inner is given."""
        if given is None:
            with self.assertRaises(NotOver):
                part(inner, outer)
            self.assertIs(lies_over(inner, outer), False)
            return
        found = part(inner, outer)
        self.assertIs(is_web(found), True)
        self.assertEqual(found, part_by_ties(inner, outer, given))
        all_ties = {(given[p], x, given[q]) for p, x, q in inner[2]} == set(outer[2])
        self.assertIs(lies_over(inner, outer), all_ties)
        self.assertIs(lies_over(inner, found), True)
        self.assertIsNotNone(laid(found, outer))

    def test_larger_webs(self):
        for deeds, rows in some_lists(60, 25, "larger"):
            web = web_of(deeds, rows)
            inner = web_of(deeds, rows[:-1])
            given = laid(inner, web)
            self.assertEqual(given, tuple(follow(web, way) for way in ways(inner)))
            self.check_part(inner, web, given)
            self.assertEqual(laid(web, web), tuple(range(web[1])))

    def test_onto_each_other(self):
        for web in some_webs(80, 12, "onto"):
            self.assertIs(lies_over(web, web), True)
            self.assertEqual(part(web, web), web)
        for one, other in pairs_of_webs(40, "onto each other"):
            if lies_over(one, other) and lies_over(other, one):
                self.assertEqual(one, other)


class JoinedTest(unittest.TestCase):
    def test_example_by_hand(self):
        self.assertEqual(joined(COMMUTATOR, 0, 1), SEVEN[1])
        self.assertEqual(joined(COMMUTATOR, 1, 0), SEVEN[1])

    def test_all_pairs(self):
        for web in some_webs(60, 9, "joined"):
            for place, mate in itertools.product(range(web[1]), repeat=2):
                right, lots = join_naively(web, [(place, mate)])
                found = joined(web, place, mate)
                self.assertEqual(found, right)
                self.assertIs(is_web(found), True)
                self.assertIs(lies_over(web, found), True)
                given = laid(web, found)
                self.assertEqual(given[place], given[mate])
                if place == mate:
                    self.assertEqual(found, web)

    def test_the_sequence_changes_nothing(self):
        source = random.Random("sequence")
        for web in some_webs(40, 9, "sequence"):
            pairs = [(source.randrange(web[1]), source.randrange(web[1])) for _ in range(3)]
            right = join_naively(web, pairs)[0]
            for order in itertools.permutations(pairs):
                now = web
                for place, mate in order:
                    given = laid(web, now)
                    now = joined(now, given[place], given[mate])
                self.assertEqual(now, right)

    def test_the_first_in_which_both_are_given_one_place(self):
        for web in some_webs(25, 6, "the first"):
            for place, mate in itertools.combinations(range(web[1]), 2):
                first = joined(web, place, mate)
                for picture in pictures_of(web):
                    given = laid(web, picture)
                    self.assertEqual(given[place] == given[mate], lies_over(first, picture))

    def test_larger_webs(self):
        source = random.Random("joined larger")
        for deeds, rows in some_lists(40, 12, "joined larger"):
            web = web_of(deeds, rows)
            if web[1] <= 40:
                place, mate = source.randrange(web[1]), source.randrange(web[1])
                self.assertEqual(joined(web, place, mate), join_naively(web, [(place, mate)])[0])
        for place, mate in ((0, 199), (3, 123), (5, 5), (0, 198), (1, 3), (3, 1), (199, 197), (9, 17), (40, 80)):
            ring = web_of(1, [(1,) * 200])
            at = [len(way) if way[:1] == (1,) else 200 - len(way) if way else 0 for way in ways(ring)]
            right = math.gcd(at[place] - at[mate], 200)
            self.assertEqual(joined(ring, place, mate), web_of(1, [(1,) * right]))


class PicturesTest(unittest.TestCase):
    def test_example_by_hand(self):
        self.assertEqual(web_of(2, [(1, 2, -1, -2)]), COMMUTATOR)
        self.assertEqual(pictures_of(COMMUTATOR), SEVEN)
        self.assertEqual(pictures(2, [(1, 2, -1, -2)]), SEVEN)

    def test_no_rows(self):
        for deeds in range(1, 5):
            for rows in ([], (), [()], [(1, -1)] * 6):
                self.assertEqual(pictures(deeds, rows), [(deeds, 1, ())])
            self.assertEqual(pictures_of((deeds, 1, ())), [(deeds, 1, ())])

    def test_by_all_manners_to_part(self):
        for web in some_webs(150, 7, "pictures"):
            found = pictures_of(web)
            self.assertIs(type(found), list)
            self.assertEqual(found, naive_pictures(web))

    def test_of_rows(self):
        for deeds, rows in some_lists(80, 3, "pictures of rows"):
            web = web_of(deeds, rows)
            if web[1] <= 7:
                self.assertEqual(pictures(deeds, rows), pictures_of(web))
                self.assertEqual(pictures(deeds, tuple(rows)), naive_pictures(web))

    def test_they_are_the_webs_onto_which_it_is_laid(self):
        for web in some_webs(40, 5, "onto which"):
            found = pictures_of(web)
            for picture in found:
                self.assertIs(lies_over(web, picture), True)
                self.assertLessEqual(set(pictures_of(picture)), set(found))
                self.assertIn((web[0], 1, tuple(sorted({(0, x, 0) for _, x, _ in web[2]}))), found)
        for one, other in pairs_of_webs(40, "onto which too"):
            self.assertEqual(lies_over(one, other), other in pictures_of(one))

    def test_times_a_letter(self):
        for many in list(range(1, 31)) + [100, 199, 200]:
            divisors = [size for size in range(1, many + 1) if many % size == 0]
            found = pictures(1, [(1,) * many])
            self.assertEqual(found, [web_of(1, [(1,) * size]) for size in divisors])

    def test_just_2000(self):
        deeds, rows = JUST
        found = pictures(deeds, rows)
        self.assertEqual(len(found), 2000)
        self.assertEqual(found, sorted(set(found)))
        web = web_of(deeds, rows)
        self.assertEqual(pictures_of(web), found)
        self.assertEqual(found, sorted(lots_web(web, lots) for lots in sound_partings(web)))

    def test_more_than_2000(self):
        deeds, rows = OVER
        web = web_of(deeds, rows)
        self.assertEqual(len(sound_partings(web)), 2001)
        for call in (lambda: pictures(deeds, rows), lambda: pictures_of(web), lambda: pictures(2, [(1, 2, 2) * 66])):
            with self.assertRaises(TooMany) as caught:
                call()
            self.assertEqual(caught.exception.most, 2000)

    def test_just_as_many_as_there_may_be(self):
        for most, fits in ((8, True), (7, True), (6, False), (1, False)):
            with unittest.mock.patch("meankept.picturing.MOST_PICTURES", most):
                if fits:
                    self.assertEqual(pictures_of(COMMUTATOR), SEVEN)
                else:
                    with self.assertRaises(TooMany):
                        pictures_of(COMMUTATOR)

    def test_long_rows(self):
        for deeds in (2, 3, 4):
            rows = [(1, 1, deeds, 2, -1) * 12, (deeds, deeds, 1) * 12]
            with self.assertRaises(TooMany):
                pictures(deeds, rows)
            with self.assertRaises(TooMany):
                pictures_of(web_of(deeds, rows))

    def test_wrong_ones_ahead_of_too_many(self):
        for wrong in (0, 5, True):
            with self.assertRaises(BadDeeds):
                pictures(wrong, OVER[1])
        with self.assertRaises(BadRows):
            pictures(1, OVER[1])


class SeenTest(unittest.TestCase):
    def test_examples_by_hand(self):
        self.assertIsNone(seen(2, [(1, 2, -1, -2)], HOUSE, 0))
        self.assertEqual(seen(2, [(2,)], HOUSE, 0), (2, 1, ((0, 2, 0),)))
        for rows in ([], [()], [(1, -1), (2, 1, -1, -2)]):
            for place in range(3):
                self.assertEqual(seen(2, rows, HOUSE, place), (2, 1, ()))

    def check(self, deeds, rows, house, place):
        """Check what a place shows; return it."""
        found = seen(deeds, rows, house, place)
        self.assertEqual(found is not None, place in kept(deeds, house, rows))
        if found is None:
            return None
        ties = set()
        for row in rows:
            at = place
            for letter in afresh(row):
                goal = lead(house, (letter,), at)
                start, end = (at, goal) if letter > 0 else (goal, at)
                ties.add(("first" if start == place else start, abs(letter), "first" if end == place else end))
                at = goal
        self.assertEqual(found, number_naively(deeds, ties))
        self.assertIs(lies_over(web_of(deeds, rows), found), True)
        return found

    def test_all_small_houses(self):
        for deeds, rows in some_lists(80, 3, "seen"):
            for places in (1, 2, 3) if deeds < 3 else (1, 2):
                shown = {}
                houses = houses_of(deeds, places)
                for house in houses:
                    for place in range(places):
                        found = self.check(deeds, rows, house, place)
                        shown[found] = shown.get(found, 0) + 1
                if web_of(deeds, rows)[1] <= 6:
                    for picture in pictures(deeds, rows):
                        self.assertEqual(shown.pop(picture, 0), worth(share(picture, places)) * len(houses))
                    self.assertLessEqual(set(shown), {None})

    def test_larger_houses(self):
        source = random.Random("larger houses")
        found = 0
        for deeds, rows in some_lists(150, 4, "seen larger"):
            places = source.randint(4, 9)
            house = tuple(tuple(source.sample(range(places), places)) for _ in range(deeds))
            for place in range(places):
                found += self.check(deeds, rows, house, place) is not None
        self.assertGreater(found, 100)

    def test_sixty_places(self):
        house = (tuple(range(1, 60)) + (0,), tuple(range(60)))
        self.assertEqual(seen(2, [(1,) * 60, (2,)], house, 59)[1], 60)
        self.assertIsNone(seen(2, [(1,) * 59], house, 0))
        self.assertEqual(seen(2, [(1,) * 120], house, 7), web_of(2, [(1,) * 60]))


class JointTest(unittest.TestCase):
    def test_example_by_hand(self):
        self.assertEqual(joint(web_of(1, [(1,) * 4]), web_of(1, [(1,) * 6])), web_of(1, [(1, 1)]))

    def test_of_both_free_lists(self):
        for deeds, rows in some_lists(120, 10, "joint"):
            one, other = web_of(deeds, rows[::2]), web_of(deeds, rows[1::2])
            found = joint(one, other)
            self.assertIs(is_web(found), True)
            self.assertEqual(found, web_of(deeds, rows))
            self.assertEqual(found, joint(other, one))
            self.assertIs(is_over(found, one) and is_over(found, other), True)
            both = free_list(one) + free_list(other)
            if len(both) <= 6 and all(len(row) <= 200 for row in both):
                self.assertEqual(found, web_of(deeds, both))

    def test_some(self):
        for web in some_webs(40, 9, "some joint"):
            self.assertEqual(joint(web, web), web)
            self.assertEqual(joint(web, (web[0], 1, ())), web)
            self.assertEqual(joint((web[0], 1, ()), web), web)
        self.assertEqual(joint(web_of(2, [(1,)]), web_of(2, [(2,)])), WHOLE)
        self.assertEqual(joint(web_of(2, [(1, 2)]), web_of(2, [(2,)])), WHOLE)

    def test_made_by_either(self):
        for one, other in pairs_of_webs(30, "either")[::7]:
            found = joint(one, other)
            for row in free_list(one) + free_list(other):
                self.assertIs(makes(found, row), True)
            self.assertLessEqual(rank(found), rank(one) + rank(other))

    def test_of_pictures(self):
        for web in some_webs(30, 5, "of pictures"):
            lot = pictures_of(web)
            for one, other in itertools.product(lot[:12], repeat=2):
                found = joint(one, other)
                self.assertIn(found, lot)
                self.assertIs(lies_over(one, found) and lies_over(other, found), True)
                for above in lot:
                    if lies_over(one, above) and lies_over(other, above):
                        self.assertIs(lies_over(found, above), True)

    def test_places_kept_by_all_that_a_picture_makes(self):
        rows = [(1, 2, -1, -2)]
        lot = pictures(2, rows)
        for house in houses_of(2, 4):
            for place in range(4):
                found = seen(2, rows, house, place)
                for picture in lot:
                    is_kept = all(lead(house, row, place) == place for row in free_list(picture))
                    self.assertEqual(is_kept, found is not None and lies_over(picture, found))

    def test_no_ties(self):
        for deeds in range(1, 5):
            self.assertEqual(joint((deeds, 1, ()), (deeds, 1, ())), (deeds, 1, ()))


if __name__ == "__main__":
    unittest.main()

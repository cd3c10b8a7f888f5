"""Point 113: webs turned by rows, the rows that turn one web into another one, and those that leave it."""

import itertools
import random
import unittest

from meankept.errors import BadRow, BadWeb, UnlikeWebs
from meankept.full import full_webs, is_full
from meankept.turned import stays_turned, turners, turning_row, web_turned
from meankept.webs import free_list, is_over, is_web, makes, rank, web_of, ways
from meankept.widest import steps_over
from tests.helpers import (back, check_first_wrong, is_plain, not_rows, not_webs, number_naively, plain_rows, some_rows,
                           some_webs, tell, turn_naively, turned, whole)

SQUARE = web_of(2, [(1, 1)])
COMMUTATOR = web_of(2, [(1, 2, -1, -2)])


def inner_ties(web):
    """Return the ties of a web between inner places."""
    ties = set(web[2])
    place = 0
    while True:
        mine = [tie for tie in ties if place in (tie[0], tie[2])]
        if len(mine) != 1 or mine[0][0] == mine[0][2]:
            return ties
        ties -= set(mine)
        (place,) = {mine[0][0], mine[0][2]} - {place}


def looks_from_inner(web):
    """Return the dict of the webs that are seen from the inner places of a web to the lists of these places."""
    ties = inner_ties(web)
    found = {}
    for place in sorted({end for start, _, goal in ties for end in (start, goal)} or {0}):
        look = number_naively(web[0], {("first" if start == place else start, deed, "first" if goal == place else goal)
                                       for start, deed, goal in ties})
        found.setdefault(look, []).append(place)
    return found


class WrongValuesTest(unittest.TestCase):
    def test_web_turned(self):
        check_first_wrong(self, web_turned, {"web": COMMUTATOR, "row": (1, 2)},
                          {"web": (BadWeb, not_webs()), "row": (BadRow, not_rows(2))})

    def test_webs(self):
        check_first_wrong(self, turning_row, {"one": COMMUTATOR, "other": SQUARE},
                          {"one": (BadWeb, not_webs()), "other": (BadWeb, not_webs())})
        for function in (turners, stays_turned):
            check_first_wrong(self, function, {"web": COMMUTATOR}, {"web": (BadWeb, not_webs())})

    def test_unlike_webs(self):
        for one, other in itertools.permutations(range(1, 5), 2):
            for webs in (((one, 1, ()), (other, 1, ())), (whole(one), whole(other))):
                with self.assertRaises(UnlikeWebs):
                    turning_row(*webs)


class TurnedTest(unittest.TestCase):
    def test_web_turned(self):
        source = random.Random("web turned")
        for web in some_webs(120, 8, "web turned"):
            row = source.choice(plain_rows(web[0], 3))
            found = web_turned(web, row)
            self.assertIs(is_web(found), True)
            self.assertEqual(found, turn_naively(web, row))
            self.assertEqual(rank(found), rank(web))
            self.assertEqual(web_turned(found, back(row)), web)
            self.assertEqual(web_turned(web, row + (1, -1)), found)
            free = [turned(its, row) for its in free_list(web)]
            if len(free) <= 6:
                self.assertEqual(found, web_of(web[0], free))

    def test_makes_the_turned_rows(self):
        for web in some_webs(25, 5, "turned rows"):
            for row in plain_rows(web[0], 2)[::3]:
                found = web_turned(web, row)
                for its in plain_rows(web[0], 3 if web[0] < 3 else 2):
                    self.assertIs(makes(found, its), makes(web, tell([row, its], (-1, 2, 1))))

    def test_without_ties(self):
        for deeds in range(1, 5):
            empty = (deeds, 1, ())
            for row in ((), (1,), (-1, deeds, 1), (1,) * 200):
                self.assertEqual(web_turned(empty, row), empty)
                self.assertEqual(web_turned(whole(deeds), row), whole(deeds))
            self.assertEqual(turning_row(empty, empty), ())
            self.assertIsNone(turning_row(empty, whole(deeds)))
            self.assertIsNone(turning_row(whole(deeds), empty))
            self.assertEqual(turners(empty), whole(deeds))
            self.assertIs(stays_turned(empty), True)

    def test_long_rows(self):
        for row in some_rows(2, 10, 200, "long turned") + [(1, 2) * 100]:
            found = web_turned(COMMUTATOR, row)
            self.assertEqual(found, turn_naively(COMMUTATOR, row))
            by = turning_row(COMMUTATOR, found)
            self.assertTrue(len(by) > 200 or web_turned(COMMUTATOR, by) == found)

    def check(self, one, other):
        """Check what turning_row tells; return whether there is such a row."""
        found = turning_row(one, other)
        if found is not None:
            self.assertIs(type(found), tuple)
            self.assertTrue(is_plain(found))
            self.assertEqual(web_turned(one, found), other)
        alike = set(looks_from_inner(one)) & set(looks_from_inner(other))
        self.assertEqual(found is not None, bool(alike))
        return found is not None

    def test_turning_row(self):
        source = random.Random("turning row")
        found = {True: 0, False: 0}
        webs = some_webs(90, 7, "turning row")
        for web in webs:
            self.assertIs(self.check(web, web), True)
            for row in source.sample(plain_rows(web[0], 3), 3):
                other = web_turned(web, row)
                self.assertIs(self.check(web, other), True)
                self.assertIs(self.check(other, web), True)
        for one, other in itertools.product(webs, repeat=2):
            if one[0] == other[0]:
                found[self.check(one, other)] += 1
        self.assertGreater(min(found.values()), 50)

    def test_turning_row_between_full_webs(self):
        found = {True: 0, False: 0}
        for one, other in itertools.product(full_webs(2, 3), repeat=2):
            found[self.check(one, other)] += 1
        self.assertGreater(min(found.values()), 10)

    def test_an_inner_place_more(self):
        # Each inner place leads on as those of the other web do, but they are not as many.
        for one, other in ((1, 2), (2, 4), (3, 6), (2, 3)):
            self.assertIs(self.check(web_of(1, [(1,) * one]), web_of(1, [(1,) * other])), False)
            self.assertIs(self.check(web_of(2, [(2,) * other]), web_of(2, [(2,) * one])), False)


class TurnersTest(unittest.TestCase):
    def test_examples_by_hand(self):
        self.assertEqual(turners(SQUARE), web_of(2, [(1,)]))
        self.assertEqual(list(looks_from_inner(SQUARE).values()), [[0, 1]])
        lots = {len(looks_from_inner(web)) for web in full_webs(2, 3)}
        self.assertEqual(lots, {1, 3})
        self.assertEqual({stays_turned(web) for web in full_webs(2, 3)}, {True, False})

    def check(self, web):
        """Check the turners of a web; return how many steps they have over it."""
        found = turners(web)
        self.assertIs(is_web(found), True)
        self.assertIs(is_over(found, web), True)
        for row in plain_rows(web[0], 3 if web[0] < 3 else 2):
            self.assertIs(makes(found, row), turn_naively(web, row) == web)
        for row in free_list(found):
            self.assertEqual(turn_naively(web, row), web)
        self.assertIs(stays_turned(web), found == whole(web[0]))
        self.assertIs(stays_turned(web), all(turn_naively(web, (x,)) == web for x in range(1, web[0] + 1)))
        looks = looks_from_inner(web)
        self.assertIs(stays_turned(web), web[2] == () or (is_full(web) and len(looks) == 1))
        if web[2] == ():
            return None
        many = steps_over(found, web)
        self.assertEqual({len(places) for places in looks.values()}, {many})
        return many

    def test_drawn(self):
        for web in some_webs(120, 7, "turners"):
            self.check(web)

    def test_with_symmetries(self):
        steps = set()
        for rows in ([(1, 1)], [(1, 2) * 3], [(1, 1), (2, 2), (1, 2, 1, 2)], [(1, 1), (2,), (1, 2, -1)],
                     [(1,) * 6], [(2, 1, 1, -2)], [(2, 2, 1, 2, 1, -2, -2)], [(1, 1, 2, 2)],
                     [(1, 1, 1), (2,), (1, 2, -1), (1, 1, 2, -1, -1)], [(2, 1, 1, 1, -2), (2, 2, -2, -2)]):
            steps.add(self.check(web_of(2, rows)))
        self.assertGreaterEqual(steps, {1, 2, 3, 6})
        for many in (1, 2, 7, 60, 200):
            self.assertEqual(turners(web_of(1, [(1,) * many])), whole(1))
            self.assertIs(stays_turned(web_of(1, [(1,) * many])), True)
            other = web_turned(web_of(2, [(1,) * many]), (2, 1, 2))
            self.assertEqual(turners(other), web_of(2, [(2, 1, 2, 1, -2, -1, -2)]))

    def test_full_webs(self):
        counts = {}
        for web in full_webs(2, 3) + full_webs(2, 4)[::5] + full_webs(3, 2):
            many = self.check(web)
            counts[(web[1], many)] = counts.get((web[1], many), 0) + 1
        self.assertTrue({(3, 1), (3, 3), (4, 1), (4, 2), (4, 4), (2, 2)} <= set(counts))

    def test_turners_of_a_turned_web(self):
        source = random.Random("turners of turned")
        for web in some_webs(40, 6, "turners of turned"):
            row = source.choice(plain_rows(web[0], 3))
            self.assertEqual(turners(web_turned(web, row)), web_turned(turners(web), row))
            self.assertEqual(ways(turners(web))[0], ())


if __name__ == "__main__":
    unittest.main()

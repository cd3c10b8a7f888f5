"""Point 114: steps of webs over others, their rows, the web of greatest steps, and rows near which webs turn."""

import itertools
import random
import unittest

from meankept.common import common
from meankept.errors import BadRow, BadWeb, NotOver, TooMany, UnlikeWebs
from meankept.full import full_webs
from meankept.pictures import pictures_of
from meankept.turned import turners, web_turned
from meankept.webs import free_list, is_over, is_web, makes, rank, web_of, ways
from meankept.widest import near_turned, step_rows, steps_over, widest
from tests.helpers import (afresh, back, check_first_wrong, follow, is_plain, not_rows, not_webs, over_one_another,
                           plain_rows, some_webs, tell, whole)

SQUARE = web_of(2, [(1, 1)])
COMMUTATOR = web_of(2, [(1, 2, -1, -2)])
WHOLE = whole(2)
FOUR = web_of(2, [(1, 1), (2, 2), (1, 2, 2, -1)])


def ring(many):
    """Return the web of one deed with so many places."""
    # From the first place the numbers go up by two on either side.
    around = [0] + list(range(1, many, 2)) + [k for k in range(many - 1, 0, -1) if k % 2 == 0]
    ties = [(around[at], 1, around[(at + 1) % many]) for at in range(many)]
    return (1, many, tuple(sorted(ties)))


def naive_steps(outer, inner):
    """Return rows of which each row that outer makes is one behind what inner makes, None if they have no end.

    There are no more of them than places of inner.
    """
    rows = [()]
    for row in rows:
        for free in free_list(outer):
            for by in (free, back(free)):
                goal = afresh(row + by)
                if not any(follow(inner, afresh(goal + back(elder))) == 0 for elder in rows):
                    rows.append(goal)
        if len(rows) > inner[1]:
            return None
    return rows


def widest_naively(web):
    """Return the web of greatest steps over web among its pictures, and how many steps it has."""
    lot = [(len(rows), picture) for picture in pictures_of(web)
           for rows in [naive_steps(picture, web)] if rows is not None]
    most = max(many for many, _ in lot)
    (found,) = [picture for many, picture in lot if many == most]
    assert all(is_over(found, picture) for _, picture in lot)
    return found, most


class WrongValuesTest(unittest.TestCase):
    def test_two_webs(self):
        for function in (steps_over, step_rows):
            check_first_wrong(self, function, {"outer": WHOLE, "inner": COMMUTATOR},
                              {"outer": (BadWeb, not_webs()), "inner": (BadWeb, not_webs())})

    def test_one_web(self):
        check_first_wrong(self, widest, {"web": COMMUTATOR}, {"web": (BadWeb, not_webs())})
        check_first_wrong(self, near_turned, {"web": COMMUTATOR, "row": (1, 2)},
                          {"web": (BadWeb, not_webs()), "row": (BadRow, not_rows(2))})

    def test_unlike_webs_and_not_over(self):
        for function in (steps_over, step_rows):
            for one, other in itertools.permutations(range(1, 5), 2):
                for webs in (((one, 1, ()), (other, 1, ())), (whole(one), whole(other))):
                    with self.assertRaises(UnlikeWebs):
                        function(*webs)
            for outer, inner in ((COMMUTATOR, WHOLE), ((2, 1, ()), WHOLE), (SQUARE, web_of(2, [(1,)])),
                                 (SQUARE, web_of(2, [(2,)]))):
                with self.assertRaises(NotOver):
                    function(outer, inner)

    def test_just_500_steps_and_more(self):
        for many in (499, 500, 501, 1000):
            self.assertIs(is_web(ring(many)), True)
            self.assertEqual(steps_over(ring(1), ring(many)), many)
            if many <= 500:
                self.assertEqual(len(step_rows(ring(1), ring(many))), many)
            else:
                with self.assertRaises(TooMany) as caught:
                    step_rows(ring(1), ring(many))
                self.assertEqual(caught.exception.most, 500)
        self.assertEqual(steps_over(ring(2), ring(1000)), 500)
        self.assertEqual(len(step_rows(ring(2), ring(1000))), 500)
        self.assertEqual(widest(ring(2000)), ring(1))

    def test_just_20000_pairs_and_more(self):
        for many, fits in ((141, True), (142, False)):
            if fits:
                self.assertIs(near_turned(ring(many), (1,)), True)
            else:
                with self.assertRaises(TooMany) as caught:
                    near_turned(ring(many), ())
                self.assertEqual(caught.exception.most, 20000)
                with self.assertRaises(BadRow):
                    near_turned(ring(many), (2,))
        # The turned web has one place more for each letter: 125 * 160 is 20000.
        web = (2, 125, ring(125)[2])
        self.assertIs(near_turned(web, (2,) * 35), False)
        with self.assertRaises(TooMany):
            near_turned(web, (2,) * 36)


class StepsTest(unittest.TestCase):
    def check(self, outer, inner):
        """Check the steps of outer over inner; return their number."""
        many = steps_over(outer, inner)
        rows = step_rows(outer, inner)
        right = naive_steps(outer, inner)
        if many is None:
            self.assertIsNone(rows)
            self.assertIsNone(right)
            return None
        self.assertEqual(many, len(right))
        self.assertIs(type(rows), list)
        self.assertEqual(len(rows), many)
        self.assertEqual(rows[0], ())
        for row in rows:
            self.assertTrue(type(row) is tuple and is_plain(row))
            self.assertEqual(follow(outer, row), 0)
        # Each made row is reached by one of them, and by just one.
        for goal in right + free_list(outer):
            ways_to = [row for row in rows if follow(inner, afresh(goal + back(row))) == 0]
            self.assertEqual(len(ways_to), 1)
        self.assertEqual(rank(inner) - 1, many * (rank(outer) - 1))
        return many

    def test_example_by_hand(self):
        self.assertEqual((FOUR[1], rank(FOUR)), (4, 3))
        found = widest(FOUR)
        self.assertEqual(found, web_of(2, [(1,), (2, 2)]))
        self.assertEqual((rank(found), self.check(found, FOUR)), (2, 2))
        rows = step_rows(found, FOUR)
        self.assertEqual(rows[0], ())
        self.assertEqual(follow(FOUR, afresh(rows[1] + (-1,))), 0)

    def test_drawn(self):
        counts = {}
        for inner, outer in over_one_another(250, 7, "steps"):
            many = self.check(outer, inner)
            counts[many] = counts.get(many, 0) + 1
        self.assertGreaterEqual(set(counts), {None, 1, 2, 3})

    def test_without_ties(self):
        for deeds in range(1, 5):
            empty = (deeds, 1, ())
            self.assertEqual(self.check(empty, empty), 1)
            self.assertIsNone(self.check(whole(deeds), empty))
            self.assertIs(near_turned(empty, (1, deeds)), True)
            self.assertEqual(widest(empty), empty)
        for web in some_webs(40, 7, "steps over itself"):
            self.assertEqual(self.check(web, web), 1)
            if web[2]:
                self.assertIsNone(self.check(web, (web[0], 1, ())))

    def test_full_webs(self):
        for web in full_webs(2, 3) + full_webs(2, 4)[::6] + full_webs(3, 2) + full_webs(1, 5):
            self.assertEqual(widest(web), whole(web[0]))
            self.assertEqual(self.check(whole(web[0]), web), web[1])

    def test_turned_ways(self):
        # Webs that come to their inner places by more letters than one.
        source = random.Random("turned ways")
        many = set()
        for web in some_webs(40, 5, "turned ways") + [FOUR, web_of(2, [(1,) * 6]), web_of(2, [(1, 2) * 3])]:
            by = source.choice(plain_rows(web[0], 3))
            for picture in pictures_of(web):
                one, other = web_turned(web, by), web_turned(picture, by)
                self.assertEqual(self.check(other, one), steps_over(picture, web))
                many.add(steps_over(picture, web))
        self.assertGreaterEqual(many, {None, 1, 2, 3, 6})

    def test_only_some_ends(self):
        # The ranks fit, but some places lack ends.
        inner = web_of(2, [(1,), (2, 2, 1, -2, -2), (2, 1, 1, -2)])
        self.assertEqual(rank(inner), 3)
        self.assertIsNone(self.check(WHOLE, inner))


class WidestTest(unittest.TestCase):
    def test_by_all_pictures(self):
        steps = set()
        for web in some_webs(100, 6, "widest") + full_webs(2, 3)[::3] + [FOUR]:
            found, many = widest_naively(web) if web[2] else (web, 1)
            self.assertEqual(widest(web), found)
            self.assertIs(is_web(widest(web)), True)
            self.assertEqual(steps_over(found, web), many)
            if web[2]:
                self.assertIs(is_over(found, turners(web)), True)
            self.assertEqual(widest(found), found)
            steps.add(many)
        self.assertGreaterEqual(steps, {1, 2, 3})

    def test_makes_the_rows_near_which_it_turns(self):
        found = {True: 0, False: 0}
        for web in some_webs(60, 6, "near turned") + [FOUR, SQUARE] + full_webs(2, 3)[::4]:
            if web[2]:
                wide = widest(web)
                for row in plain_rows(web[0], 3 if web[0] < 3 else 2):
                    right = makes(wide, row)
                    self.assertIs(near_turned(web, row), right, (web, row))
                    found[right] += 1
        self.assertGreater(min(found.values()), 200)

    def test_near_turned_by_steps(self):
        source = random.Random("near turned by steps")
        for web in some_webs(60, 6, "near turned by steps"):
            row = source.choice(plain_rows(web[0], 3))
            turned = web_turned(web, row)
            both = common(web, turned)
            right = naive_steps(web, both) is not None and naive_steps(turned, both) is not None
            self.assertIs(near_turned(web, row), right)

    def test_one_widest_web(self):
        found = {True: 0, False: 0}
        lots = {}
        for web in some_webs(60, 5, "one widest") + full_webs(2, 2) + [FOUR, SQUARE]:
            if web[2]:
                lots.setdefault(web[0], []).append(web)
                lots[web[0]] += [turners(web), widest(web)]
        for lot in lots.values():
            for one, other in itertools.product(lot[:40], repeat=2):
                both = common(one, other)
                right = steps_over(one, both) is not None and steps_over(other, both) is not None
                self.assertIs(widest(one) == widest(other), right)
                found[right] += 1
        self.assertGreater(min(found.values()), 100)

    def test_of_a_turned_web(self):
        source = random.Random("widest of turned")
        for web in some_webs(80, 7, "widest of turned") + [FOUR]:
            row = source.choice(plain_rows(web[0], 3))
            self.assertEqual(widest(web_turned(web, row)), web_turned(widest(web), row))

    def test_large_webs(self):
        for row, many in (((1, 2), 100), ((1, 1, 2), 66), ((1, 2, -1, -2), 50), ((2, 1, 1, -2), 1)):
            web = web_of(2, [tell([row], (1,) * many)])
            found = widest(web)
            self.assertEqual(found, web_of(2, [row]) if many > 1 else web_of(2, [(2, 1, -2)]))
            self.assertEqual(steps_over(found, web), many if many > 1 else 2)
            self.assertEqual(ways(found)[0], ())


if __name__ == "__main__":
    unittest.main()

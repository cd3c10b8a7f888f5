"""Points 101 and 102: pictures within another web, joinings, free webs, and what lengthens a free list."""

import itertools
import random
import unittest

from meankept.between import fewest, free_in, joinings, lengthened, within
from meankept.errors import BadWeb, NotFree, NotOver, TooMany, UnlikeWebs
from meankept.pictures import joined, laid, lies_over, part, pictures, pictures_of
from meankept.renamings import is_renaming
from meankept.shortest import as_letter
from meankept.webs import free_list, is_over, makes, rank, web_of
from tests.helpers import (check_first_wrong, drawn_renaming, is_plain, is_reached, join_naively, not_webs,
                           over_one_another, plain_rows, some_webs, tell, whole)

COMMUTATOR = (2, 4, ((0, 1, 1), (0, 2, 2), (1, 2, 3), (2, 1, 3)))
WHOLE = (2, 1, ((0, 1, 0), (0, 2, 0)))
BETWEEN = (within, joinings, free_in, lengthened)
# A web with more than 2000 pictures.
MUCH = web_of(2, [(1, 1, 2) * 10])


class WrongValuesTest(unittest.TestCase):
    def test_webs(self):
        for function in BETWEEN:
            check_first_wrong(self, function, {"inner": web_of(2, [(1,)]), "outer": WHOLE},
                              {"inner": (BadWeb, not_webs()), "outer": (BadWeb, not_webs())})
        check_first_wrong(self, fewest, {"web": COMMUTATOR}, {"web": (BadWeb, not_webs())})

    def test_unlike_webs(self):
        for function in BETWEEN:
            for one, other in itertools.permutations(range(1, 5), 2):
                for webs in (((one, 1, ()), (other, 1, ())), (web_of(one, [(1,)]), whole(other))):
                    with self.assertRaises(UnlikeWebs):
                        function(*webs)

    def test_not_over(self):
        for function in BETWEEN:
            for inner, outer in ((WHOLE, COMMUTATOR), (WHOLE, (2, 1, ())), (web_of(2, [(1,)]), web_of(2, [(1, 1)])),
                                 (MUCH, COMMUTATOR), (MUCH, (2, 1, ()))):
                with self.assertRaises(NotOver):
                    function(inner, outer)

    def test_too_many(self):
        for function in BETWEEN:
            with self.assertRaises(TooMany) as caught:
                function(MUCH, WHOLE)
            self.assertEqual(caught.exception.most, 2000)
        with self.assertRaises(TooMany) as caught:
            fewest(MUCH)
        self.assertEqual(caught.exception.most, 2000)

    def test_just_2000_and_one_more(self):
        just = web_of(4, [(4, 3, 3, -1, 3, 4, 3, 2, 3, 4)])
        self.assertEqual(len(within(just, whole(4))), 2000)
        self.assertEqual(len(fewest(just)), 2000)
        self.assertIs(free_in(just, whole(4)), True)
        over = web_of(4, [(-1, -1, 4, 3, 1, 4, 4, 2, 4), (3, -1, 4)])
        for call in (lambda: within(over, whole(4)), lambda: fewest(over), lambda: free_in(over, whole(4))):
            with self.assertRaises(TooMany):
                call()

    def test_only_the_pictures_within_are_counted(self):
        self.assertEqual(within(MUCH, MUCH), [MUCH])
        self.assertEqual(joinings(MUCH, MUCH), [])
        self.assertIs(free_in(MUCH, MUCH), True)
        self.assertEqual(lengthened(MUCH, MUCH), [])
        for many in (2, 5):
            outer = web_of(2, [(1, 1, 2) * many])
            self.assertEqual(len(within(MUCH, outer)), {2: 2, 5: 2}[many])
            self.assertIs(free_in(MUCH, outer), False)
            self.assertEqual(len(joinings(MUCH, outer)), 1)

    def test_not_free(self):
        for inner, outer in ((COMMUTATOR, WHOLE), (web_of(2, [(1, 1)]), WHOLE), (web_of(2, [(1, 1)]), web_of(2, [(1,)])),
                             (web_of(2, [(1, 1), (2,)]), WHOLE)):
            with self.assertRaises(NotFree):
                lengthened(inner, outer)


class WithinTest(unittest.TestCase):
    def test_drawn(self):
        sizes = set()
        for inner, outer in over_one_another(150, 6, "within"):
            found = within(inner, outer)
            self.assertIs(type(found), list)
            self.assertEqual(found, [picture for picture in pictures_of(inner) if is_over(outer, picture)])
            self.assertIn(inner, found)
            self.assertIn(part(inner, outer), found)
            self.assertTrue(all(lies_over(picture, part(inner, outer)) for picture in found))
            sizes.add(len(found))
        self.assertGreater(len(sizes), 8)

    def test_the_whole_has_all_pictures_within(self):
        for web in some_webs(40, 6, "whole"):
            self.assertEqual(within(web, whole(web[0])), pictures_of(web))

    def test_many_letters(self):
        for many, least in ((200, 8), (120, 1), (60, 60), (96, 6)):
            found = within(web_of(1, [(1,) * many]), web_of(1, [(1,) * least]))
            self.assertEqual(found, [web_of(1, [(1,) * size]) for size in range(1, many + 1)
                                     if many % size == 0 and size % least == 0])


class JoiningsTest(unittest.TestCase):
    def test_examples_by_hand(self):
        self.assertEqual(len(joinings(web_of(2, [(1, 1)]), WHOLE)), 1)
        self.assertEqual(len(joinings(COMMUTATOR, WHOLE)), 2)
        self.assertEqual(len(joinings(web_of(2, [(1, 2, -1)]), WHOLE)), 1)
        self.assertEqual(part(web_of(2, [(1, 1)]), WHOLE), web_of(2, [(1,)]))

    def check(self, inner, outer):
        """Check the joinings of a web; return how many there are."""
        found = joinings(inner, outer)
        self.assertIs(type(found), list)
        goal = part(inner, outer)
        now = inner
        for pair in found:
            self.assertIs(type(pair), tuple)
            place, mate = pair
            self.assertTrue(0 <= place < mate < inner[1])
            given = laid(inner, now)
            now = joined(now, given[place], given[mate])
        self.assertEqual(now, goal)
        self.assertEqual(join_naively(inner, found)[0], goal)
        self.assertEqual(found == [], inner == goal)
        self.assertGreaterEqual(len(found), rank(goal) - rank(inner))
        self.assertLessEqual(len(found), rank(goal))
        return len(found)

    def test_as_few_as_a_search_finds(self):
        counts = {}
        for inner, outer in over_one_another(150, 6, "joinings"):
            many = self.check(inner, outer)
            counts[many] = counts.get(many, 0) + 1
            if many:
                self.assertFalse(is_reached(inner, part(inner, outer), many - 1))
        self.assertGreater(min(counts[many] for many in (0, 1, 2)), 5)

    def test_fewest(self):
        self.assertEqual(list(fewest(COMMUTATOR)), pictures_of(COMMUTATOR))
        self.assertEqual(fewest((2, 1, ())), {(2, 1, ()): 0})
        for web in some_webs(60, 5, "fewest"):
            found = fewest(web)
            self.assertIs(type(found), dict)
            self.assertEqual(list(found), pictures_of(web))
            for picture, many in found.items():
                self.assertEqual(many, len(joinings(web, picture)))
                self.assertTrue(is_reached(web, picture, many))
                self.assertFalse(many and is_reached(web, picture, many - 1))
        found = fewest(COMMUTATOR)
        found.clear()
        self.assertEqual(len(fewest(COMMUTATOR)), 7)


class FreeTest(unittest.TestCase):
    def test_examples_by_hand(self):
        self.assertIs(free_in(web_of(2, [(1, 1)]), WHOLE), False)
        self.assertIs(free_in(COMMUTATOR, WHOLE), False)
        inner = web_of(2, [(1, 2, -1)])
        self.assertIs(free_in(inner, WHOLE), True)
        self.assertEqual(web_of(2, free_list(inner) + [(1,)]), WHOLE)
        self.check(inner, WHOLE)

    def check(self, inner, outer):
        """Check whether a web is free, and what lengthens it; return whether it is."""
        is_free = free_in(inner, outer)
        self.assertIs(is_free, len(joinings(inner, outer)) == rank(part(inner, outer)) - rank(inner))
        if not is_free:
            with self.assertRaises(NotFree):
                lengthened(inner, outer)
            return False
        rows = lengthened(inner, outer)
        self.assertIs(type(rows), list)
        self.assertTrue(all(type(row) is tuple and is_plain(row) and row != () for row in rows))
        self.assertEqual(rows == [], inner == outer)
        both = free_list(inner) + rows
        self.assertEqual(len(both), rank(outer))
        if len(both) <= 6 and all(len(row) <= 200 for row in both):
            self.assertEqual(web_of(outer[0], both), outer)
            if outer == whole(outer[0]):
                self.assertIs(is_renaming(outer[0], tuple(both)), True)
        for row in both:
            self.assertTrue(len(row) > 200 or makes(outer, row))
        return True

    def test_drawn(self):
        found = {True: 0, False: 0}
        for inner, outer in over_one_another(250, 6, "free"):
            found[self.check(inner, outer)] += 1
            self.assertIs(free_in(part(inner, outer), outer), True)
        self.assertGreater(min(found.values()), 60)

    def test_a_web_without_ties_is_free(self):
        for web in some_webs(80, 12, "without ties"):
            self.assertIs(self.check((web[0], 1, ()), web), True)
            self.assertIs(self.check(web, web), True)
            for row in free_list(web)[:2]:
                self.assertTrue(len(row) > 200 or self.check(web_of(web[0], [row]), web))
            lot = free_list(web)[:3]
            if all(len(row) <= 200 for row in lot):
                self.assertIs(self.check(web_of(web[0], lot), web), True)

    def test_letters(self):
        for row in plain_rows(2, 5)[1:]:
            self.assertIs(self.check(web_of(2, [row]), WHOLE), as_letter(2, row) is not None, row)
        for row in plain_rows(3, 3)[1:]:
            self.assertIs(self.check(web_of(3, [row]), whole(3)), as_letter(3, row) is not None, row)

    def test_some_images_of_a_renaming(self):
        source = random.Random("some images")
        for _ in range(60):
            deeds = source.randint(2, 4)
            images = drawn_renaming(source, deeds, 11)
            some = list(images[:source.randint(1, deeds - 1)])
            web = web_of(deeds, some)
            if web[1] <= 7:
                self.assertIs(self.check(web, whole(deeds)), True)
                # Twice a letter of a free list is no letter of one.
                other = web_of(deeds, some[:-1] + [tell(some[-1:], (1, 1))])
                if other[1] <= 7:
                    self.assertIs(self.check(other, whole(deeds)), False)

    def test_as_many_rows_as_deeds(self):
        for one, other in itertools.product(plain_rows(2, 3)[1:], repeat=2):
            web = web_of(2, [one, other])
            self.assertEqual(web == WHOLE, is_renaming(2, (one, other)))

    def test_free_stays_free_between(self):
        for inner, outer in over_one_another(60, 5, "between"):
            if free_in(inner, outer):
                for mid in within(inner, outer):
                    self.assertIs(free_in(inner, mid), True)

    def test_ranks(self):
        deeds, rows = 2, [(1, 1), (2, 2), (1, 2, 1)]
        web = web_of(deeds, rows)
        self.assertEqual(rank(web), 3)
        self.assertIs(self.check((2, 1, ()), web), True)
        self.assertEqual(len(lengthened((2, 1, ()), web)), 3)
        self.assertEqual(len(pictures(2, [])), 1)


if __name__ == "__main__":
    unittest.main()

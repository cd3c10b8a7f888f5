"""Points 102 to 105: webs bound in others, hulls, bound webs, other letters, and how free and bound hang together."""

import itertools
import random
import unittest

from meankept.between import fewest, free_in, lengthened, within
from meankept.common import common
from meankept.errors import BadRank, BadWeb, NotOver, TooMany, UnlikeWebs
from meankept.hulls import bound_webs, hull, inside, is_bound, outside
from meankept.pictures import joint, laid, lies_over, part, pictures_of
from meankept.shortest import as_letter, needed
from meankept.turned import web_turned
from meankept.webs import free_list, is_over, is_web, made_power, makes, rank, told_row, web_of
from meankept.widest import steps_over
from tests.helpers import (check_first_wrong, drawn_renaming, follow, is_free_naively, join_naively, naive_pictures,
                           not_webs, over_one_another, plain_rows, some_lists, some_webs, tell, whole)

COMMUTATOR = web_of(2, [(1, 2, -1, -2)])
WHOLE = whole(2)
SQUARE = web_of(2, [(1, 1)])
# A web with more than 2000 pictures, and webs with 2000 and 2001.
MUCH = web_of(2, [(1, 1, 2) * 10])
JUST = web_of(4, [(4, 3, 3, -1, 3, 4, 3, 2, 3, 4)])
OVER = web_of(4, [(-1, -1, 4, 3, 1, 4, 4, 2, 4), (3, -1, 4)])


def hulls_naively(inner, outer):
    """Return the webs between inner and outer that are free in outer and over which all others of these are."""
    lot = [web for web in naive_pictures(inner) if is_over(outer, web) and is_free_naively(web, outer)]
    lot += [] if outer in lot else [outer]
    return [web for web in lot if all(is_over(other, web) for other in lot)]


def by_one_joining(web):
    """Return the webs that come of a web by one joining."""
    return {join_naively(web, [pair])[0] for pair in itertools.combinations(range(web[1]), 2)}


def chains(many, most, seed):
    """Return triples of webs of which each is over the one ahead of it."""
    source = random.Random(seed)
    found = []
    for inner, outer in over_one_another(many, most, seed):
        lot = within(inner, outer) + [inner, outer]
        found.append((inner, source.choice(lot), outer))
        rows = free_list(outer)
        if rows:
            spelled = [tuple(source.choice([-1, 1]) * source.randint(1, len(rows)) for _ in range(2))
                       for _ in range(source.randint(1, 3))]
            mid = joint(inner, web_of(inner[0], [tell(rows, spelling) for spelling in spelled]))
            if mid[1] <= most:
                found.append((inner, mid, outer))
    return found


class WrongValuesTest(unittest.TestCase):
    def test_webs(self):
        for function in (is_bound, hull, inside):
            check_first_wrong(self, function, {"inner": COMMUTATOR, "outer": WHOLE},
                              {"inner": (BadWeb, not_webs()), "outer": (BadWeb, not_webs())})
        check_first_wrong(self, bound_webs, {"web": COMMUTATOR}, {"web": (BadWeb, not_webs())})
        check_first_wrong(self, outside, {"web": SQUARE, "outer": WHOLE},
                          {"web": (BadWeb, not_webs()), "outer": (BadWeb, not_webs())})

    def test_unlike_webs(self):
        for function in (is_bound, hull, inside):
            for one, other in itertools.permutations(range(1, 5), 2):
                # Ahead of the wrong rank, 0, and of webs that are not over the other.
                for webs in (((one, 1, ()), (other, 1, ())), (whole(one), (other, 1, ())),
                             (web_of(one, [(1,)]), whole(other))):
                    with self.assertRaises(UnlikeWebs):
                        function(*webs)

    def test_not_over(self):
        for function in (is_bound, hull, inside):
            for inner, outer in ((WHOLE, COMMUTATOR), (WHOLE, (2, 1, ())), (web_of(2, [(1,)]), SQUARE),
                                 (MUCH, COMMUTATOR), (MUCH, (2, 1, ())), (SQUARE, (2, 1, ()))):
                with self.assertRaises(NotOver):
                    function(inner, outer)

    def test_too_many(self):
        for call in (lambda: is_bound(MUCH, WHOLE), lambda: hull(MUCH, WHOLE), lambda: bound_webs(MUCH),
                     lambda: is_bound(OVER, whole(4)), lambda: hull(OVER, whole(4)), lambda: bound_webs(OVER)):
            with self.assertRaises(TooMany) as caught:
                call()
            self.assertEqual(caught.exception.most, 2000)

    def test_just_2000_and_only_those_within(self):
        self.assertEqual(hull(JUST, whole(4)), JUST)
        self.assertIs(is_bound(JUST, whole(4)), False)
        self.assertEqual(bound_webs(JUST), [JUST])
        self.assertEqual(hull(MUCH, MUCH), MUCH)
        self.assertIs(is_bound(MUCH, MUCH), True)
        outer = web_of(2, [(1, 1, 2) * 2])
        self.assertEqual(hull(MUCH, outer), outer)
        self.assertIs(is_bound(MUCH, outer), True)
        self.assertEqual(inside(MUCH, WHOLE), MUCH)

    def test_ranks(self):
        lot = {0: (2, 1, ()), 1: SQUARE, 2: WHOLE, 3: web_of(2, [(1, 1), (2, 2), (1, 2, -1)]),
               4: web_of(2, [(1, 1), (2, 2), (1, 2, -1), (2, 1, -2)]),
               5: web_of(2, [(1, 1), (2, 2), (1, 2, 2, -1), (2, 1, 1, -2), (1, 2, 1, 1, -2, -1)])}
        self.assertEqual([rank(lot[k]) for k in range(6)], list(range(6)))
        for many, outer in lot.items():
            inner = (2, 1, ())
            if 1 <= many <= 4:
                self.assertEqual(inside(inner, outer), (many, 1, ()))
                self.assertEqual(inside(outer, outer), whole(many))
                self.assertEqual(outside((many, 1, ()), outer), (2, 1, ()))
                self.assertEqual(outside(whole(many), outer), outer)
            else:
                for web in (inner, outer):
                    with self.assertRaises(BadRank):
                        inside(web, outer)
            for deeds in range(1, 5):
                if deeds != many:
                    with self.assertRaises(BadRank):
                        outside((deeds, 1, ()), outer)


class HullTest(unittest.TestCase):
    def test_examples_by_hand(self):
        self.assertIs(is_bound(SQUARE, web_of(2, [(1,)])), True)
        self.assertEqual(hull(SQUARE, WHOLE), web_of(2, [(1,)]))
        self.assertIs(is_bound(SQUARE, WHOLE), False)
        self.assertIs(free_in(COMMUTATOR, WHOLE), False)
        self.assertIs(is_bound(COMMUTATOR, WHOLE), True)
        self.assertEqual(bound_webs(COMMUTATOR), [WHOLE, COMMUTATOR])
        letter = web_of(2, [(1, 2, -1)])
        self.assertIs(free_in(letter, WHOLE), True)
        self.assertEqual(hull(letter, WHOLE), letter)
        self.assertEqual(web_of(2, free_list(letter) + [(1,)]), WHOLE)
        self.assertEqual(len(lengthened(letter, WHOLE)), 1)

    def test_the_joinings_of_the_examples(self):
        self.assertEqual({rank(web) for web in pictures_of(COMMUTATOR) if WHOLE in by_one_joining(web)}, {2, 3})
        counts = fewest(COMMUTATOR)
        for picture in pictures_of(COMMUTATOR):
            if picture not in (WHOLE, COMMUTATOR):
                elders = [web for web in counts if picture in by_one_joining(web) and rank(web) == rank(picture) - 1]
                self.assertNotEqual(elders, [])

    def test_one_hull(self):
        counts = {"free": 0, "bound": 0, "else": 0}
        for inner, outer in over_one_another(200, 5, "hulls"):
            found = hull(inner, outer)
            self.assertEqual(hulls_naively(inner, outer), [found])
            self.assertIs(is_free_naively(found, outer), True)
            self.assertIs(is_bound(inner, found), True)
            self.assertIs(free_in(found, outer), True)
            self.assertIn(found, pictures_of(inner))
            self.assertIs(is_bound(inner, outer), found == outer)
            self.assertIs(free_in(inner, outer), found == inner)
            counts["bound" if found == outer else "free" if found == inner else "else"] += 1
        self.assertGreater(min(counts.values()), 5)

    def test_without_ties(self):
        for web in some_webs(40, 6, "hull without ties"):
            empty = (web[0], 1, ())
            self.assertEqual(hull(empty, web), empty)
            self.assertIs(is_bound(empty, web), web == empty)
            self.assertEqual(hull(web, web), web)
            self.assertIs(is_bound(web, web), True)
            self.assertEqual(bound_webs(empty), [empty])

    def test_bound_webs(self):
        sizes = set()
        for web in some_webs(60, 6, "bound webs"):
            found = bound_webs(web)
            self.assertIs(type(found), list)
            lot = naive_pictures(web)
            self.assertEqual(found, [other for other in lot if is_bound(web, other)])
            self.assertEqual(found, sorted(set(hull(web, other) for other in lot)))
            elders = {other: by_one_joining(other) for other in lot}
            self.assertEqual(found, [other for other in lot if other == web or not any(
                other in elders[elder] and rank(elder) == rank(other) - 1 for elder in lot)])
            self.assertIn(web, found)
            sizes.add(len(found))
        self.assertGreater(len(sizes), 2)

    def test_bound_webs_by_hulls_in_all_webs_over_it(self):
        for inner, outer in over_one_another(120, 6, "over it"):
            self.assertIn(hull(inner, outer), bound_webs(inner))

    def test_bound_in_one_and_in_other(self):
        for web in some_webs(40, 6, "bound in both"):
            lot = bound_webs(web)
            for one, other in itertools.combinations(lot, 2):
                self.assertIn(joint(one, other), lot)

    def test_letters_and_needed(self):
        for row in plain_rows(2, 5)[1:]:
            web = web_of(2, [row])
            self.assertEqual(as_letter(2, row) is not None, free_in(web, WHOLE))
            self.assertEqual(needed(2, [row]), rank(hull(web, WHOLE)))
        for row in plain_rows(3, 4)[1::7]:
            web = web_of(3, [row])
            self.assertEqual(as_letter(3, row) is not None, free_in(web, whole(3)))
            self.assertEqual(needed(3, [row]), rank(hull(web, whole(3))))

    def test_powers_and_turned_hulls(self):
        source = random.Random("powers")
        for inner, outer in over_one_another(120, 6, "powers"):
            found, rows = hull(inner, outer), free_list(outer)
            for _ in range(6 if rows else 0):
                spelling = tuple(source.choice([-1, 1]) * source.randint(1, len(rows)) for _ in range(3))
                row = tell(rows, spelling)
                made = makes(found, row)
                self.assertEqual(made_power(found, row) is not None, made)
                if not made:
                    self.assertEqual(common(found, web_turned(found, row)), (found[0], 1, ()))

    def test_steps_and_bound(self):
        many = 0
        for inner, outer in over_one_another(200, 6, "steps and bound"):
            if steps_over(outer, inner) is not None:
                self.assertIs(is_bound(inner, outer), True)
                many += inner != outer
        self.assertGreater(many, 5)

    def test_renamed(self):
        source = random.Random("hulls renamed")
        for inner, outer in over_one_another(100, 4, "hulls renamed"):
            images = drawn_renaming(source, inner[0], 6)
            lots = [[tell(images, row) for row in free_list(web)] for web in (inner, outer)]
            if all(len(rows) <= 6 and all(len(row) <= 200 for row in rows) for rows in lots):
                one, other = [web_of(inner[0], rows) for rows in lots]
                if one[1] <= 8:
                    self.assertIs(free_in(one, other), free_in(inner, outer))
                    self.assertIs(is_bound(one, other), is_bound(inner, outer))


class LettersTest(unittest.TestCase):
    def check(self, inner, outer):
        """Check what is told inside; return it."""
        found = inside(inner, outer)
        self.assertIs(is_web(found), True)
        self.assertEqual(found[0], rank(outer))
        self.assertEqual(rank(found), rank(inner))
        self.assertEqual(outside(found, outer), inner)
        for spelling in plain_rows(found[0], 3 if found[0] < 3 else 2):
            row = told_row(outer, spelling)
            if len(row) <= 200:
                self.assertIs(makes(found, spelling), makes(inner, row))
        return found

    def test_inside(self):
        ranks = set()
        for inner, outer in over_one_another(150, 6, "inside"):
            if 1 <= rank(outer) <= 4:
                found = self.check(inner, outer)
                whole_inside = whole(rank(outer))
                self.assertIs(free_in(found, whole_inside), free_in(inner, outer))
                self.assertIs(is_bound(found, whole_inside), is_bound(inner, outer))
                self.assertEqual(outside(hull(found, whole_inside), outer), hull(inner, outer))
                lot = [outside(web, outer) for web in bound_webs(found)]
                self.assertEqual(sorted(lot), [web for web in bound_webs(inner) if is_over(outer, web)])
                ranks.add(rank(outer))
        self.assertEqual(ranks, {1, 2, 3, 4})

    def test_outside(self):
        many = 0
        for web in some_webs(60, 5, "outside"):
            for outer in some_webs(25, 5, "outer"):
                if rank(outer) == web[0]:
                    found = outside(web, outer)
                    self.assertIs(is_web(found), True)
                    self.assertEqual(found[0], outer[0])
                    self.assertEqual(inside(found, outer), web)
                    self.assertIs(is_over(outer, found), True)
                    rows = [told_row(outer, row) for row in free_list(web)]
                    if len(rows) <= 6 and all(len(row) <= 200 for row in rows):
                        self.assertEqual(found, web_of(outer[0], rows))
                    many += 1
        self.assertGreater(many, 100)

    def test_the_whole_changes_nothing(self):
        for web in some_webs(40, 9, "the whole"):
            self.assertEqual(inside(web, whole(web[0])), web)
            self.assertEqual(outside(web, whole(web[0])), web)

    def test_over_one_another(self):
        for inner, mid, outer in chains(80, 5, "inside chains"):
            if 1 <= rank(outer) <= 4:
                one, other = inside(inner, outer), inside(mid, outer)
                self.assertIs(is_over(other, one), True)
                self.assertIs(free_in(one, other), free_in(inner, mid))
                self.assertIs(is_bound(one, other), is_bound(inner, mid))


class ChainsTest(unittest.TestCase):
    def test_facts(self):
        counts = {"free": 0, "bound": 0}
        for inner, mid, outer in chains(250, 5, "chains"):
            free, bound = free_in(inner, outer), is_bound(inner, outer)
            if free_in(inner, mid) and free_in(mid, outer):
                self.assertIs(free, True)
            if is_bound(inner, mid) and is_bound(mid, outer):
                self.assertIs(bound, True)
            if free:
                self.assertIs(free_in(inner, mid), True)
                counts["free"] += 1
            if bound:
                self.assertIs(is_bound(mid, outer), True)
                counts["bound"] += 1
            large, small = hull(mid, outer), hull(inner, outer)
            self.assertIs(is_over(large, small), True)
            self.assertIs(free_in(small, large), True)
            self.assertIs(is_over(small, hull(inner, mid)), True)
            if free_in(mid, outer):
                self.assertEqual(small, hull(inner, mid))
        self.assertGreater(min(counts.values()), 30)

    def test_common_of_free_webs(self):
        source = random.Random("common of free")
        many = 0
        for deeds, rows in some_lists(120, 3, "common of free"):
            outer = web_of(deeds, rows)
            free = free_list(outer)
            if free and outer[1] <= 5:
                lot = []
                for _ in range(2):
                    images = drawn_renaming(source, len(free), 6) if len(free) <= 4 else None
                    told = free if images is None else [tell(free, image) for image in images]
                    lot.append(web_of(deeds, source.sample(told, source.randint(0, len(told)))[:6]))
                one, other = lot
                if max(one[1], other[1]) <= 7:
                    self.assertIs(free_in(one, outer) and free_in(other, outer), True)
                    self.assertIs(free_in(common(one, other), outer), True)
                    many += common(one, other)[2] != ()
        self.assertGreater(many, 10)

    def test_parts(self):
        for inner, outer in over_one_another(60, 6, "parts"):
            middle = part(inner, outer)
            self.assertIs(free_in(middle, outer), True)
            self.assertEqual(hull(inner, middle), hull(inner, outer))
            self.assertEqual(laid(inner, outer)[0], 0)
            self.assertIs(lies_over(inner, hull(inner, outer)), True)
            self.assertTrue(all(follow(outer, row) == 0 for row in free_list(inner)))


if __name__ == "__main__":
    unittest.main()

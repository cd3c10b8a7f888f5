"""Points 111 and 112, and the last fact of point 74: what webs have in common, and rows across one another."""

import functools
import itertools
import random
import unittest

from meankept.common import across, common, common_pieces, piece, piece_of
from meankept.errors import BadPlace, BadRow, BadWeb, TooMany, UnlikeWebs
from meankept.full import full_webs, is_full
from meankept.pictures import lies_over, part, pictures_of
from meankept.turned import web_turned
from meankept.webs import free_list, is_over, is_web, makes, rank, web_of, ways
from tests.helpers import (afresh, back, check_first_wrong, follow, hanging, not_in, not_rows, not_webs, pair_ties,
                           plain_rows, some_webs, tell, web_by_ties, whole)

ONE = web_of(2, [(1, 1), (2,)])
OTHER = web_of(2, [(1, 1), (2, 2)])
EMPTY = (2, 1, ())


def ring(many):
    """Return the web of one deed with so many places."""
    return web_of(1, [(1,) * many])


def line(deeds, many):
    """Return a web with so many places of which each but the first one has a tie to itself."""
    ties = []
    for place in range(many - 1):
        ties += [(place, 1, place + 1), (place + 1, 2, place + 1)]
    return (deeds, many, tuple(sorted(ties)))


@functools.lru_cache(maxsize=None)
def pairs_of_webs(many, most, seed):
    """Return pairs of webs of as many deeds."""
    lots = {}
    for web in some_webs(many, most, seed):
        lots.setdefault(web[0], []).append(web)
    return [pair for lot in lots.values() for pair in itertools.product(lot[:15], repeat=2)]


def naive_pieces(one, other):
    """Return the list of the sets of pairs that hang together, the least pair of each ascending."""
    ties = pair_ties(one, other)
    left = set(itertools.product(range(one[1]), range(other[1])))
    found = []
    while left:
        first = min(left)
        lot = {end for start, _, goal in hanging(ties, first) for end in (start, goal)} | {first}
        left -= lot
        found.append(lot)
    return found


def made_rows(web, size):
    """Return the plain rows of at most so many letters that a web makes."""
    return [row for row in plain_rows(web[0], size) if follow(web, row) == 0]


def product(*rows):
    """Return the product of rows."""
    return afresh(sum(rows, ()))


class WrongValuesTest(unittest.TestCase):
    def test_two_webs(self):
        for function in (common, common_pieces):
            check_first_wrong(self, function, {"one": ONE, "other": OTHER},
                              {"one": (BadWeb, not_webs()), "other": (BadWeb, not_webs())})

    def test_piece(self):
        check_first_wrong(self, piece, {"one": ONE, "other": OTHER, "place": 1, "mate": 2},
                          {"one": (BadWeb, not_webs()), "other": (BadWeb, not_webs()), "place": (BadPlace, not_in(2)),
                           "mate": (BadPlace, not_in(3))})

    def test_rows(self):
        check_first_wrong(self, across, {"one": ONE, "other": OTHER, "row": (1, 2), "goal": (2,)},
                          {"one": (BadWeb, not_webs()), "other": (BadWeb, not_webs()), "row": (BadRow, not_rows(2)),
                           "goal": (BadRow, not_rows(2))})
        check_first_wrong(self, piece_of, {"one": ONE, "other": OTHER, "row": (1, 2)},
                          {"one": (BadWeb, not_webs()), "other": (BadWeb, not_webs()), "row": (BadRow, not_rows(2))})

    def test_unlike_webs_behind_all_parameters(self):
        for deeds, mate in itertools.permutations(range(1, 5), 2):
            one, other = whole(deeds), whole(mate)
            for call in (lambda: common(one, other), lambda: common_pieces(one, other),
                         lambda: piece(one, other, 0, 0), lambda: across(one, other, (deeds,), ()),
                         lambda: piece_of(one, other, (deeds,))):
                with self.assertRaises(UnlikeWebs):
                    call()
            for places in ((1, 0), (0, 1), (None, 0), (0, True)):
                with self.assertRaises(BadPlace):
                    piece(one, other, *places)
            # The letters are those of one's deeds.
            for rows in (((deeds + 1,), ()), ((), (deeds + 1,)), ([], ())):
                with self.assertRaises(BadRow):
                    across(one, other, *rows)
            with self.assertRaises(BadRow):
                piece_of(one, other, (deeds + 1,))

    def test_just_20000(self):
        hundred, two_hundred = ring(100), ring(200)
        self.assertEqual(hundred[1] * two_hundred[1], 20000)
        self.assertEqual(common(hundred, two_hundred), two_hundred)
        self.assertEqual(len(common_pieces(hundred, two_hundred)), 100)
        self.assertEqual(piece(hundred, two_hundred, 5, 8), two_hundred)
        self.assertIsNone(across(hundred, two_hundred, (1,), (-1,)))
        self.assertIsNotNone(across(two_hundred, hundred, (1,) * 50, (-1,) * 50))
        self.assertEqual(piece_of(hundred, two_hundred, (1,) * 100), (0, 0))
        one, other = line(2, 50), line(2, 400)
        self.assertIs(is_web(one) and is_web(other), True)
        self.assertEqual(common(one, other), one)
        self.assertEqual(common_pieces(one, other)[0], (0, 0, 49))

    def test_one_more_than_20000(self):
        one, other = line(2, 59), line(2, 339)
        self.assertEqual(one[1] * other[1], 20001)
        for first, second in ((one, other), (other, one)):
            for call in (lambda: common(first, second), lambda: common_pieces(first, second),
                         lambda: piece(first, second, 0, 0), lambda: across(first, second, (), ()),
                         lambda: piece_of(first, second, ())):
                with self.assertRaises(TooMany) as caught:
                    call()
                self.assertEqual(caught.exception.most, 20000)
            with self.assertRaises(BadPlace):
                piece(first, second, 0, second[1])
            with self.assertRaises(BadRow):
                piece_of(first, second, (3,))
        with self.assertRaises(UnlikeWebs):
            common(line(3, 142), line(2, 142))


class CommonTest(unittest.TestCase):
    def test_example_by_hand(self):
        self.assertEqual(ONE, (2, 2, ((0, 1, 1), (0, 2, 0), (1, 1, 0))))
        self.assertEqual(OTHER, (2, 3, ((0, 1, 1), (0, 2, 2), (1, 1, 0), (2, 2, 0))))
        found = common(ONE, OTHER)
        self.assertEqual(found, web_of(2, [(1, 1), (2, 2)]))
        self.assertEqual(common_pieces(ONE, OTHER), [(0, 0, 2), (0, 1, 1)])

    def test_makes_what_both_make(self):
        ranks = set()
        for one, other in pairs_of_webs(70, 6, "common"):
            found = common(one, other)
            self.assertIs(is_web(found), True)
            self.assertEqual(found, web_by_ties(one[0], pair_ties(one, other), (0, 0)))
            for row in free_list(found):
                self.assertIs(follow(one, row) == follow(other, row) == 0, True)
            ranks.add(rank(found))
        self.assertGreater(len(ranks), 3)
        for one, other in pairs_of_webs(16, 5, "common rows"):
            found = common(one, other)
            for row in plain_rows(one[0], 4 if one[0] < 3 else 2):
                self.assertIs(makes(found, row), makes(one, row) and makes(other, row))

    def test_piece(self):
        source = random.Random("piece")
        for one, other in pairs_of_webs(70, 6, "pieces")[::2]:
            place, mate = source.randrange(one[1]), source.randrange(other[1])
            found = piece(one, other, place, mate)
            self.assertEqual(found, web_by_ties(one[0], pair_ties(one, other), (place, mate)))
            self.assertIs(is_web(found), True)
            for row in plain_rows(one[0], 3 if one[0] < 3 else 2):
                right = follow(one, row, place) == place and follow(other, row, mate) == mate
                self.assertIs(makes(found, row), right)

    def test_common_pieces(self):
        many = set()
        for one, other in pairs_of_webs(70, 6, "common pieces"):
            found = common_pieces(one, other)
            self.assertIs(type(found), list)
            ties = pair_ties(one, other)
            right = []
            for lot in naive_pieces(one, other):
                its = sum(start in lot for start, _, _ in ties) - len(lot) + 1
                right += [min(lot) + (its,)] if its >= 1 else []
            self.assertEqual(found, right)
            self.assertEqual(found, sorted(found))
            for p, q, its in found:
                self.assertEqual(rank(piece(one, other, p, q)), its)
            if rank(one) and rank(other):
                self.assertLessEqual(sum(its - 1 for _, _, its in found), (rank(one) - 1) * (rank(other) - 1))
            many.add(len(found))
        self.assertGreater(len(many), 2)

    def test_without_ties(self):
        for deeds in range(1, 5):
            empty = (deeds, 1, ())
            self.assertEqual(common(empty, empty), empty)
            self.assertEqual(common_pieces(empty, empty), [])
            self.assertEqual(common(empty, whole(deeds)), empty)
            self.assertEqual(piece(empty, whole(deeds), 0, 0), empty)
            self.assertEqual(common_pieces(whole(deeds), whole(deeds)), [(0, 0, deeds)])
        for web in some_webs(40, 9, "common itself"):
            self.assertEqual(common(web, web), web)
            self.assertEqual(common(web, whole(web[0])), web)
            self.assertEqual(common(whole(web[0]), web), web)

    def test_full_webs(self):
        for one, other in itertools.product(full_webs(2, 3), full_webs(2, 2) + full_webs(2, 3)[::3]):
            found = common(one, other)
            self.assertIs(is_full(found), True)
            self.assertLessEqual(found[1], one[1] * other[1])
            lots = [piece(one, other, p, q) for p, q, _ in common_pieces(one, other)]
            self.assertTrue(all(is_full(web) for web in lots))
            self.assertEqual(sum(web[1] for web in lots), one[1] * other[1])

    def test_over(self):
        for one, other in pairs_of_webs(60, 6, "common over"):
            self.assertEqual(common(one, other) == other, is_over(one, other))
            self.assertEqual(common(one, other), common(other, one))

    def test_the_last_picture_laid_onto_both(self):
        # The last fact of point 74.
        for web in some_webs(40, 5, "last laid onto both"):
            lot = pictures_of(web)
            for one, other in itertools.product(lot[:12], repeat=2):
                found = part(web, common(one, other))
                self.assertIn(found, lot)
                self.assertIs(lies_over(found, one) and lies_over(found, other), True)
                for below in lot:
                    if lies_over(below, one) and lies_over(below, other):
                        self.assertIs(lies_over(below, found), True)


class AcrossTest(unittest.TestCase):
    def check(self, one, other, row, goal):
        """Check what across tells; return whether there is something."""
        found = across(one, other, row, goal)
        if found is None:
            return False
        self.assertIs(type(found), tuple)
        h, k = found
        for web, made in ((one, h), (other, k)):
            self.assertIs(type(made), tuple)
            self.assertEqual(made, tell([made], (1,)))
            self.assertEqual(follow(web, made), 0)
        self.assertEqual(product(h, row, k), afresh(goal))
        return True

    def test_there_is_something(self):
        source = random.Random("across")
        for one, other in pairs_of_webs(60, 6, "across")[::2]:
            for _ in range(3):
                row = source.choice(plain_rows(one[0], 3))
                rows = [[source.choice([lot, back(lot)]) for lot in free_list(web)[:2]] for web in (one, other)]
                h, k = [tell(lot, tuple(range(1, len(lot) + 1))) for lot in rows]
                goal = tell([h, row, k], (1, 2, 3))
                if len(goal) <= 200:
                    self.assertIs(self.check(one, other, row, goal), True)
                    self.assertIs(self.check(one, other, goal, row), True)
                    self.assertIs(self.check(one, other, row, row + (1, -1)), True)

    def test_there_is_nothing(self):
        found = {True: 0, False: 0}
        for one, other in pairs_of_webs(40, 5, "nothing")[::9]:
            if one[0] > 2:
                continue
            made = [(h, k) for h in made_rows(one, 4) for k in made_rows(other, 4)]
            for row in plain_rows(one[0], 2)[::2]:
                reached = {product(h, row, k) for h, k in made}
                for goal in plain_rows(one[0], 2):
                    is_across = self.check(one, other, row, goal)
                    self.assertFalse(goal in reached and not is_across)
                    found[is_across] += 1
        self.assertGreater(min(found.values()), 100)

    def test_full_webs_have_as_many_lots_as_pieces(self):
        # With a full web, all rows are told by the places to which they lead.
        for one, other in itertools.product(full_webs(2, 2) + full_webs(2, 3)[::4], full_webs(2, 3)[::3]):
            lots = []
            for way in ways(one):
                if not any(self.check(one, other, elder, way) for elder in lots):
                    lots.append(way)
            self.assertEqual(len(lots), len(common_pieces(one, other)))
            self.assertEqual(len({piece_of(one, other, way) for way in lots}), len(lots))

    def test_piece_of(self):
        found = {True: 0, False: 0}
        source = random.Random("piece of")
        for one, other in pairs_of_webs(60, 6, "piece of")[::3]:
            lots = naive_pieces(one, other)
            for row in source.sample(plain_rows(one[0], 3), 6) + [()]:
                first = piece_of(one, other, row)
                right = set()
                for p, way in enumerate(ways(one)):
                    for q, its in enumerate(ways(other)):
                        if self.check(one, other, row, product(way, back(its))):
                            right.add((p, q))
                self.assertEqual(first, min(right, default=None))
                if right:
                    self.assertIn(right, lots)
                turned = common(one, web_turned(other, row))
                self.assertEqual(rank(turned), 0 if first is None else rank(piece(one, other, *first)))
                found[first is None] += 1
            self.assertEqual(piece_of(one, other, ()), (0, 0))
        self.assertGreater(min(found.values()), 50)

    def test_rows_that_have_a_piece(self):
        source = random.Random("have a piece")
        for one, other in pairs_of_webs(40, 5, "have a piece")[::3]:
            for _ in range(8):
                row, goal = source.choice(plain_rows(one[0], 3)), source.choice(plain_rows(one[0], 3))
                mine, its = piece_of(one, other, row), piece_of(one, other, goal)
                if mine is not None:
                    self.assertIs(self.check(one, other, row, goal), mine == its)

    def test_without_ties(self):
        for row, goal in itertools.product(plain_rows(2, 2), repeat=2):
            self.assertIs(self.check(EMPTY, EMPTY, row, goal), row == goal)
            self.assertEqual(piece_of(EMPTY, EMPTY, row), (0, 0) if row == () else None)
            self.assertIs(self.check(whole(2), EMPTY, row, goal), True)
            self.assertEqual(piece_of(EMPTY, whole(2), row), (0, 0))

    def test_long_rows(self):
        source = random.Random("long across")
        for one, other in pairs_of_webs(40, 6, "long across")[::11]:
            row = tuple(source.choice([1, -1]) for _ in range(200))
            self.assertIs(self.check(one, other, row, row), True)
            if one[0] > 1:
                self.assertIs(self.check((one[0], 1, ()), (one[0], 1, ()), (1, 2) * 100, (2, 1) * 100), False)


if __name__ == "__main__":
    unittest.main()

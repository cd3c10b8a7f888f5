"""Points 62 and 63: levels of shortest lists, the form, and lists that are alike by a renaming."""

import itertools
import random
import unittest

from meankept.errors import BadDeeds, BadRows, TooMany
from meankept.houses import total_kept
from meankept.levels import alike, form, level
from meankept.moves import moves
from meankept.renamings import is_renaming
from meankept.rings import root
from meankept.shortest import is_shortest, shortened
from tests.helpers import (NOT_DEEDS, back, check_first_wrong, drawn_renaming, exchanges, few_lists, letters, move_of,
                           naive_moves, naive_rings, not_few_lists, plain_rows, size, some_renamings, tell, turned)

ROWS = [(1, 1, 2), (2, 1, -2)]
MANY = [(1,), (2,), (3,), (4,)]


def neighbours_in_level(deeds, rings):
    """Return all lists of rings of one total that single moves and exchanges make of rings."""
    renamings = [move_of(deeds, move) for move in naive_moves(deeds)] + exchanges(deeds)
    found = {naive_rings([tell(images, ring) for ring in rings]) for images in renamings}
    return {other for other in found if size(other) == size(rings)}


def level_or_none(deeds, rows):
    """Return the level of rows, None if it is too large."""
    try:
        return level(deeds, rows)
    except TooMany:
        return None


class WrongValuesTest(unittest.TestCase):
    def test_rows(self):
        for function in (level, form):
            for rows in ([()], ROWS):
                check_first_wrong(self, function, {"deeds": 2, "rows": rows},
                                  {"deeds": (BadDeeds, NOT_DEEDS), "rows": (BadRows, not_few_lists(2))})

    def test_alike(self):
        check_first_wrong(self, alike, {"deeds": 2, "one": ROWS, "other": [(1,), ()]},
                          {"deeds": (BadDeeds, NOT_DEEDS), "one": (BadRows, not_few_lists(2)),
                           "other": (BadRows, not_few_lists(2))})

    def test_unlike_many(self):
        for one, other in itertools.permutations(range(1, 5), 2):
            with self.assertRaises(BadRows):
                alike(2, [(1,)] * one, [(1,)] * other)
            # Ahead of too many.
            with self.assertRaises(BadRows):
                alike(4, [(1, 2, 3, 4, 1, 1, 2, 2)] * one, [(1, 2, 3, 4, 1, 1, 2, 2)] * other)

    def test_wrong_ones_ahead_of_too_many(self):
        much = [(1, 2, 3, 4, 1, 1, 2, 2, 3, 3, 4, 4)]
        self.assertIsNone(level_or_none(4, much))
        for wrong in ([], [(5,)], None, [()] * 5):
            with self.assertRaises(BadRows):
                alike(4, much, wrong)
            with self.assertRaises(BadRows):
                alike(4, wrong, much)


class LevelTest(unittest.TestCase):
    def test_examples_by_hand(self):
        self.assertEqual(level(2, [(1, 2, -1, -2)]), [((-2, -1, 2, 1),), ((-2, 1, 2, -1),)])
        self.assertEqual(level(2, [(1,)]), [((-2,),), ((-1,),), ((1,),), ((2,),)])

    def test_letters(self):
        for deeds in range(1, 5):
            self.assertEqual(level(deeds, [(1,)]), [((x,),) for x in letters(deeds)])
            self.assertEqual(level(deeds, [()] * 4), [((),) * 4])
            for many in range(1, deeds + 1):
                right = sorted(set(tuple((x,) for x in lot) for lot in itertools.permutations(letters(deeds), many)
                                   if len(set(map(abs, lot))) == many))
                self.assertEqual(level(deeds, [(x,) for x in range(1, many + 1)]), right)
        self.assertEqual(len(level(4, MANY)), 384)

    def check(self, deeds, rows):
        """Check that a lot is the whole level of rows; return it."""
        found = level_or_none(deeds, rows)
        if found is None:
            return None
        self.assertIs(type(found), list)
        self.assertEqual(found, sorted(set(found)))
        self.assertLessEqual(len(found), 500)
        self.assertIn(shortened(deeds, rows)[1], found)
        self.assertEqual({size(rings) for rings in found}, {size(shortened(deeds, rows)[1])})
        self.assertEqual(form(deeds, rows), found[0])
        led = {rings: neighbours_in_level(deeds, rings) for rings in found[:40]}
        for rings, others in led.items():
            self.assertIs(is_shortest(deeds, rings), True)
            self.assertLessEqual(others, set(found))
        if len(found) <= 40:
            met = [found[0]]
            for rings in met:
                met += [other for other in led[rings] if other not in met]
            self.assertEqual(sorted(met), found)
        return found

    def test_drawn(self):
        source = random.Random("level")
        many = 0
        for deeds, rows in few_lists(30, 30, "level"):
            found = self.check(deeds, rows)
            images = drawn_renaming(source, deeds, 16)
            other = [turned(tell(images, row), source.choice(plain_rows(deeds, 2))) for row in rows]
            if all(len(row) <= 200 for row in other):
                self.assertEqual(level_or_none(deeds, other), found)
                many += found is not None
        self.assertGreater(many, 10)

    def test_short_rows(self):
        for row in plain_rows(2, 5):
            self.check(2, [row])
        for one, other in itertools.product(plain_rows(2, 2), repeat=2):
            self.check(2, [one, other])

    def test_levels_are_the_same_or_apart(self):
        lots = [level(2, [row]) for row in plain_rows(2, 5)]
        for one, other in itertools.combinations(lots, 2):
            self.assertTrue(one == other or not set(one) & set(other))

    def test_just_500_and_more(self):
        sizes = set()
        for deeds in (3, 4):
            for row in some_level_rows(deeds):
                found = level_or_none(deeds, [row])
                sizes.add(None if found is None else len(found))
                if found is None:
                    for function in (level, form):
                        with self.assertRaises(TooMany) as caught:
                            function(deeds, [row])
                        self.assertEqual(caught.exception.most, 500)
        self.assertIn(None, sizes)
        self.assertGreater(max(many for many in sizes if many is not None), 200)

    def test_just_500(self):
        # The letters behind and between the two 2 can be shared out in many manners.
        rows = [(1,) * 124 + (2, 2)]
        found = level(2, rows)
        self.assertEqual(len(found), 500)
        self.assertEqual(form(2, rows), found[0])
        self.assertEqual(alike(2, rows, rows)[0], "alike")
        more = [(1,) * 125 + (2, 2)]
        for call in (lambda: level(2, more), lambda: form(2, more), lambda: alike(2, more, [()]),
                     lambda: alike(2, [()], more)):
            with self.assertRaises(TooMany) as caught:
                call()
            self.assertEqual(caught.exception.most, 500)

    def test_returned_lists_are_new(self):
        level(2, ROWS).append("more")
        self.assertEqual(level(2, ROWS), level(2, tuple(ROWS)))


def some_level_rows(deeds):
    """Return rows with small levels and with large ones."""
    found = [(1,), (1, 1), (1, 2, -1, -2), (1, 1, 2, 2), (1, 1, 2, 2, 3, 3), (1, 2, 3, -1, -2, -3),
             (1, 1, 1, 2, 2, 2, 3, 3), (1, 1, 2, 2, 3, 3, 3)]
    return found + [(1, 1, 2, 2, 3, 3, 4, 4), (1, 2, -1, -2, 3, 4, -3, -4)] if deeds == 4 else found


class AlikeTest(unittest.TestCase):
    def check(self, deeds, one, other):
        """Check what alike tells; return whether the lists are alike, None if there are too many."""
        try:
            found = alike(deeds, one, other)
        except TooMany as error:
            self.assertEqual(error.most, 500)
            self.assertIn(None, [level_or_none(deeds, one), level_or_none(deeds, other)])
            return None
        self.assertIs(type(found), tuple)
        if found[0] == "alike":
            _, images = found
            self.assertIs(is_renaming(deeds, images), True)
            self.assertEqual(naive_rings([tell(images, row) for row in one]), naive_rings(other))
            self.assertEqual(form(deeds, one), form(deeds, other))
            return True
        self.assertEqual(found, ("unlike", form(deeds, one), form(deeds, other)))
        self.assertNotEqual(form(deeds, one), form(deeds, other))
        self.assertFalse(set(level(deeds, one)) & set(level(deeds, other)))
        return False

    def test_some(self):
        for one, other, right in (([(1,)], [(2,)], True), ([(1,)], [(-1,)], True), ([(1,)], [(1, 1)], False),
                                  ([(1, 2)], [(1,)], True), ([()], [()], True), ([()], [(1,)], False),
                                  ([(1,), (2,)], [(1,), (1,)], False), ([(1,), (2,)], [(2, 1), (1, 2)], False),
                                  ([(1,), (2,)], [(2, 1), (1, 2, 1)], True), ([(1,), (1,)], [(1,), (-1,)], False),
                                  ([(1, 2, -1, -2)], [(2, 1, -2, -1)], True), ([(1,), (2,)], [(2,), (-1,)], True),
                                  ([(1,), ()], [(), (1,)], False), ([(1,), (2,)], [(1,), (1, 1, 2)], True),
                                  ([(1, 1, 2, 2)], [(1, 2, 1, -2)], True)):
            self.assertIs(self.check(2, one, other), right, (one, other))
            self.assertIs(self.check(2, other, one), right, (one, other))
            self.assertEqual(alike(2, tuple(one), tuple(other)), alike(2, one, other))

    def test_all_short_rows(self):
        lot = plain_rows(2, 4)[::5]
        for one, other in itertools.product(lot, repeat=2):
            right = level(2, [one]) == level(2, [other])
            self.assertIs(self.check(2, [one], [other]), right)

    def test_hidden(self):
        source = random.Random("alike")
        many = 0
        for deeds, rows in few_lists(30, 25, "alike"):
            images = drawn_renaming(source, deeds, 25)
            other = [turned(tell(images, row), source.choice(plain_rows(deeds, 2))) for row in rows]
            if all(len(row) <= 200 for row in other):
                found = self.check(deeds, rows, other)
                self.assertIsNot(found, False)
                many += found is True
                self.assertEqual(self.check(deeds, other, rows), found)
        self.assertGreater(many, 10)

    def test_drawn_pairs(self):
        source = random.Random("pairs")
        found = {True: 0, False: 0, None: 0}
        for deeds, rows in few_lists(45, 10, "pairs"):
            other = list(rows)
            at = source.randrange(len(rows))
            other[at] = source.choice([back(rows[at]), rows[at - 1], tell([rows[at], (1,)], (1, 2)), rows[at][1:]])
            found[self.check(deeds, rows, other)] += 1
        self.assertGreater(min(found[True], found[False]), 5)

    def test_turned_row_by_row(self):
        source = random.Random("row by row")
        for deeds, rows in few_lists(40, 15, "row by row"):
            other = [turned(row, source.choice(plain_rows(deeds, 3))) for row in rows]
            if all(len(row) <= 200 for row in other):
                self.assertIsNot(self.check(deeds, rows, other), False)

    def test_facts(self):
        for deeds, images in some_renamings(20, 10, "facts of alike"):
            rows = [(1, 1), (1,) if deeds == 1 else (1, 2, -1, -2, -2)]
            other = [tell(images, row) for row in rows]
            if self.check(deeds, rows, other):
                for one, its in zip(rows, other):
                    self.assertIs(self.check(deeds, [one], [its]), True)
                    self.assertEqual(root(deeds, one)[1], root(deeds, its)[1])
                    if deeds < 3:
                        self.assertEqual(total_kept(deeds, [one], 3), total_kept(deeds, [its], 3))
        # Alike lists of two rows need not keep as many places together.
        self.assertIs(self.check(2, [(1,), (1,)], [(1,), (2, 1, -2)]), True)
        self.assertNotEqual(total_kept(2, [(1,), (1,)], 3), total_kept(2, [(1,), (2, 1, -2)], 3))

    def test_too_many(self):
        much, less = [(1, 2, 3, 4, 1, 1, 2, 2, 3, 3, 4, 4)], [(1,)]
        for one, other in ((much, less), (less, much), (much, much)):
            with self.assertRaises(TooMany) as caught:
                alike(4, one, other)
            self.assertEqual(caught.exception.most, 500)

    def test_one_deed(self):
        for one, other, right in (([(1,)], [(-1,)], True), ([(1,), (1,)], [(-1,), (1,)], False),
                                  ([(1, 1), (1,)], [(-1, -1), (-1,)], True), ([()], [()], True)):
            self.assertIs(self.check(1, one, other), right)
        self.assertEqual(level(1, [(1, 1), ()]), [((-1, -1), ()), ((1, 1), ())])

    def test_all_moves_lead_to_alike_lists(self):
        for move in moves(3)[::9]:
            rows = [(1, 2, -1), (3, 3, 2)]
            self.assertIs(self.check(3, rows, [tell(move_of(3, move), row) for row in rows]), True)


if __name__ == "__main__":
    unittest.main()

"""Point 33: what rows make, with a paper for each answer, and what nothing is made of."""

import itertools
import random
import unittest

from meankept.errors import BadDeeds, BadRow, BadRows, TooMany
from meankept.full import is_full
from meankept.houses import is_house, kept
from meankept.made import made_of, nothing_of
from meankept.webs import free_list, makes, rank, web_of
from tests.helpers import (NOT_DEEDS, afresh, all_rows, back, check_first_wrong, follow, is_plain_spelling, lead,
                           not_lists, not_rows, plain_rows, some_lists, some_rows, tell)


class Papers(unittest.TestCase):
    def check_made(self, deeds, rows, row):
        """Check the paper of made_of by itself, without webs; return whether the row is made."""
        found = made_of(deeds, rows, row)
        self.assertIs(type(found), tuple)
        word, paper = found
        if word == "made":
            self.assertIs(type(paper), tuple)
            self.assertTrue(all(type(number) is int and 1 <= abs(number) <= len(rows) for number in paper))
            self.assertEqual(tell(rows, paper), tell([row], (1,)), rows)
            return True
        self.assertEqual(word, "parted")
        self.assertTrue(is_house(deeds, paper))
        for other in rows:
            self.assertEqual(lead(paper, other, 0), 0)
        self.assertNotEqual(lead(paper, row, 0), 0)
        return False

    def check_nothing(self, deeds, rows):
        """Check what nothing_of tells; return whether it is a spelling."""
        found = nothing_of(deeds, rows)
        if found is None:
            return False
        self.assertTrue(is_plain_spelling(rows, found) and found != ())
        self.assertEqual(tell(rows, found), ())
        return True


class WrongValuesTest(unittest.TestCase):
    def test_made_of(self):
        check_first_wrong(self, made_of, {"deeds": 2, "rows": [(1, 2)], "row": (1,)},
                          {"deeds": (BadDeeds, NOT_DEEDS), "rows": (BadRows, not_lists(2)),
                           "row": (BadRow, not_rows(2))})

    def test_nothing_of(self):
        check_first_wrong(self, nothing_of, {"deeds": 2, "rows": [(1, 2)]},
                          {"deeds": (BadDeeds, NOT_DEEDS), "rows": (BadRows, not_lists(2))})

    def test_wrong_ones_ahead_of_too_many(self):
        with self.assertRaises(BadRow):
            made_of(1, [(1,) * 61], (2,))
        with self.assertRaises(BadRows):
            made_of(1, [(1,) * 61, (2,)], (2,))
        with self.assertRaises(BadDeeds):
            made_of(0, [(1,) * 61, (2,)], (2,))


class MadeOfTest(Papers):
    def test_example_by_hand(self):
        self.assertEqual(made_of(2, [(1, 1), (2,)], (1,)), ("parted", ((1, 0), (0, 1))))

    def test_some(self):
        for rows, row, right in (([], (), True), ([], (1,), False), ([()], (1,), False), ([()], (), True),
                                 ([(1,)], (1,), True), ([(1,)], (-1, -1, -1), True), ([(1, 1)], (1,), False),
                                 ([(1, 1), (1, 1, 1)], (1,), True), ([(1, 2), (2,)], (1,), True),
                                 ([(1, 2)], (2, 1), False), ([(1, 2), (2, 1)], (1, 1), False),
                                 ([(1, 2), (2, 1)], (1, 1, -2, -2), False),
                                 ([(1, 2), (2, 1)], (1, 2, -1, -2), True),
                                 ([(1, 1, 2), (1, 2)], (2, 1, 1), True)):
            self.assertIs(self.check_made(2, rows, row), right, (rows, row))

    def test_all_short_rows(self):
        for one, other in itertools.product(plain_rows(2, 2), repeat=2):
            web = web_of(2, [one, other])
            for row in plain_rows(2, 3):
                self.assertIs(self.check_made(2, [one, other], row), follow(web, row) == 0)

    def test_rows_that_are_not_plain(self):
        for row in all_rows(2, 3):
            self.check_made(2, [(1, 1), (1, -1, 2, -2), (2, 2, -2)], row)
            self.check_made(2, [row], (1,))
            self.assertIs(self.check_made(2, [row], afresh(row)), True)

    def test_drawn_rows(self):
        source = random.Random("made of")
        made = parted = 0
        for size in (2, 5, 12):
            for deeds, rows in some_lists(120, size, f"made of {size}"):
                web = web_of(deeds, rows)
                lot = some_rows(deeds, 3, 6, f"{rows}")
                if rows:
                    lot += [tell(rows, [source.choice([-1, 1]) * source.randint(1, len(rows)) for _ in range(5)])
                            for _ in range(3)]
                for row in lot:
                    if len(row) <= 200 and (web[1] + len(row) <= 60 or makes(web, row)):
                        is_made = self.check_made(deeds, rows, row)
                        self.assertIs(is_made, makes(web, row))
                        made += is_made
                        parted += not is_made
        self.assertGreater(min(made, parted), 400)

    def test_free_lists_are_made(self):
        for size in (3, 8, 30):
            for deeds, rows in some_lists(60, size, f"made free {size}"):
                for row in free_list(web_of(deeds, rows)):
                    if len(row) <= 200:
                        self.assertIs(self.check_made(deeds, rows, row), True)

    def test_lists_and_tuples(self):
        self.assertEqual(made_of(2, ((1, 1), (2,)), (1,)), made_of(2, [(1, 1), (2,)], (1,)))
        self.assertIs(self.check_made(2, ((1, 1), (2,)), (2, 1, 1)), True)

    def check_too_many(self, deeds, rows, row):
        """Check that there are too many places for a house."""
        with self.assertRaises(TooMany) as caught:
            made_of(deeds, rows, row)
        self.assertEqual(caught.exception.most, 60)

    def test_sixty_places_and_more(self):
        self.assertIs(self.check_made(1, [(1,) * 60], (1,)), False)
        self.assertEqual(len(made_of(1, [(1,) * 60], (1,))[1][0]), 60)
        self.check_too_many(1, [(1,) * 61], (1,))
        self.check_too_many(1, [(-1,) * 61], (1,) * 60)
        self.check_too_many(1, [(1,) * 200], (1,) * 199)

    def test_the_letters_behind_the_longest_beginning_count(self):
        ring = (1,) * 58
        for row, fits in (((2,), True), ((2, 2), True), ((2, 2, 2), False), ((1,) * 57 + (2, 2), True),
                          ((1,) * 57 + (2, 2, 2), False), ((-1,) * 100 + (2, -1), True), ((-1, 2, 1, 1), False),
                          ((1,) * 50, True), ((1, 2, -2, -1) * 40 + (2, 1), True), ((2, -2) * 90 + (2, 1, 1), False)):
            if fits:
                self.assertIs(self.check_made(2, [ring], row), False)
            else:
                self.check_too_many(2, [ring], row)

    def test_without_rows_the_web_has_one_place(self):
        self.assertIs(self.check_made(1, [], (1,) * 59), False)
        self.assertIs(self.check_made(2, [()] * 6, (1, 2) * 29 + (1,)), False)
        self.check_too_many(1, [], (1,) * 60)
        self.check_too_many(2, [()], (1, 2) * 30)

    def test_what_is_made_is_never_too_many(self):
        self.assertIs(self.check_made(1, [(1,) * 61], (1,) * 61), True)
        self.assertIs(self.check_made(1, [(1,) * 61], (-1,) * 183), True)
        self.assertIs(self.check_made(1, [(1,) * 61], ()), True)
        rows = [tuple(row) for row in some_rows(4, 20, 200, "long made") if len(row) > 60][:6]
        for row in rows + [afresh(rows[0][:90] + back(rows[0][:90])), tell(rows, (1, -1, 2))]:
            self.assertIs(self.check_made(4, rows, row), True)
        # All of web and row is more than 60; but the row is read nearly to its end.
        self.assertIs(self.check_made(2, [(1,) * 40], (1,) * 40), True)
        self.assertIs(self.check_made(2, [(1,) * 40], (1,) * 120 + (2,)), False)

    def test_many_times_a_letter(self):
        for lot, row in itertools.product([(6, 10, 15), (4, 6), (200, 199), (144, 89), (0, 5)], range(-7, 8)):
            rows = [(1,) * many for many in lot]
            right = row % {(6, 10, 15): 1, (4, 6): 2, (200, 199): 1, (144, 89): 1, (0, 5): 5}[lot] == 0
            self.assertIs(self.check_made(1, rows, (1,) * row if row >= 0 else (-1,) * -row), right)

    def test_what_a_full_web_does_not_make_is_parted_by_the_web(self):
        rows = [(1, 1), (2,), (1, 2, -1)]
        web = web_of(2, rows)
        self.assertTrue(is_full(web))
        for row in plain_rows(2, 4):
            word, paper = made_of(2, rows, row)
            if word == "parted":
                self.assertEqual(paper, ((1, 0), (0, 1)))
                self.assertEqual(kept(2, paper, rows), [0, 1])

    def test_what_is_passed_in_stays(self):
        rows = [(1, 1), (1, -1, 2)]
        made_of(2, rows, (1,))
        made_of(2, rows, (2, 1, 1))
        nothing_of(2, rows)
        self.assertEqual(rows, [(1, 1), (1, -1, 2)])


class NothingOfTest(Papers):
    def test_example_by_hand(self):
        self.assertIs(self.check_nothing(2, [(1,), (1, 1)]), True)
        self.assertEqual(tell([(1,), (1, 1)], (1, 1, -2)), ())

    def test_some(self):
        for rows, right in (([], False), ([()], True), ([(1,)], False), ([(1,), ()], True), ([(1, -1)], True),
                            ([(1,), (1,)], True), ([(1,), (-1,)], True), ([(1,), (2,)], False),
                            ([(1, 2), (2, 1)], False), ([(1,), (2,), (1, 2)], True), ([(1, 1), (2, 2), (1, 2)], False),
                            ([(1, 1), (1, 1, 1)], True), ([()] * 6, True)):
            self.assertIs(self.check_nothing(2, rows), right, rows)

    def test_exactly_if_there_are_more_rows_than_the_rank(self):
        for size in (2, 5, 12, 40):
            for deeds, rows in some_lists(120, size, f"nothing {size}"):
                self.assertIs(self.check_nothing(deeds, rows), len(rows) > rank(web_of(deeds, rows)))

    def test_all_pairs_of_short_rows(self):
        for one, other in itertools.product(plain_rows(2, 3), repeat=2):
            right = one == () or other == () or afresh(one + other) == afresh(other + one)
            self.assertIs(self.check_nothing(2, [one, other]), right)

    def test_no_short_spelling_where_there_is_none(self):
        for deeds, rows in some_lists(60, 3, "no short one"):
            if 1 <= len(rows) <= 3 and nothing_of(deeds, rows) is None:
                for spelling in plain_rows(len(rows), 5)[1:]:
                    self.assertNotEqual(tell(rows, spelling), ())

    def test_free_lists_are_free(self):
        for deeds, rows in some_lists(120, 8, "free lists"):
            found = free_list(web_of(deeds, rows))
            if all(len(row) <= 200 for row in found):
                self.assertIsNone(nothing_of(deeds, found))
                if len(found) < 6:
                    self.assertIs(self.check_nothing(deeds, found + [found[0] if found else ()]), True)

    def test_six_long_rows(self):
        rows = [row for row in some_rows(4, 20, 200, "six") if len(row) > 60][:6]
        self.assertIsNone(nothing_of(4, rows))
        self.assertIs(self.check_nothing(4, rows[:5] + [afresh(rows[0])]), True)
        self.assertIs(self.check_nothing(1, [(1,) * 200, (1,) * 199, (-1,) * 144, (1,), (-1,), ()]), True)


if __name__ == "__main__":
    unittest.main()

"""Point 35: changes of lists of rows."""

import itertools
import random
import unittest

from meankept.errors import BadChange, BadDeeds, BadRows, UnlikeMany
from meankept.lists import are_changes, changed, changes_between, freed
from meankept.rows import is_row
from meankept.webs import free_list, web_of
from tests.helpers import (NOT_DEEDS, afresh, any_values, back, check_first_wrong, not_lists, plain_rows,
                           some_lists, some_rows)

ROWS = [(1, 2), (2,)]
LED = [("undo", 1), ("put", 0, 1), ("undo", 1)]
ENDLESS = [("put", 0, 1), ("put", 1, 0)] * 30


def not_changes():
    """Return values that are no changes of a list of 3 rows."""
    return any_values() + [
        0, 1, (), ("undo",), ("put",), ("swap",), ("undo", 3), ("undo", -1), ("undo", 10 ** 29), ("undo", True),
        ("undo", False), ("undo", None), ("undo", "0"), ("undo", (0,)), ("undo", 0, 1), ("undo", 0, 0),
        ("put", 0), ("put", 0, 0), ("put", 0, 3), ("put", 3, 0), ("put", -1, 0), ("put", 0, -1), ("put", 0, True),
        ("put", False, 1), ("put", 0, 1, 2), ("put", 0, None), ("swap", 1), ("swap", 1, 1), ("swap", 2, 3),
        ("swap", 3, 2), ("swap", 0, -3), ("swap", True, 0), ("swap", 0, 1, 2), ("turn", 0), ("turn", 0, 1),
        ("Undo", 0), ("", 0), (None, 0), (0, 0), (1, 0, 1), (True, 0), (["undo"], 0), (("undo",), 0), ("undo", [0]),
        ["undo", 0], ["put", 0, 1], ["swap", 0, 1], [("undo", 0)], (("undo", 0),), "undo", {"undo": 0}]


def after(rows, change):
    """Return the list of plain rows behind a change."""
    found = list(rows)
    if change[0] == "undo":
        found[change[1]] = back(rows[change[1]])
    elif change[0] == "put":
        one, other = rows[change[1]], rows[change[2]]
        while one and other and one[-1] == -other[0]:
            one, other = one[:-1], other[1:]
        found[change[1]] = one + other
    else:
        found[change[1]], found[change[2]] = rows[change[2]], rows[change[1]]
    return found


def after_all(test, rows, changes):
    """Return the plain rows behind all changes, having checked each of these."""
    test.assertIs(type(changes), list)
    now = [afresh(row) for row in rows]
    for change in changes:
        test.assertIs(type(change), tuple)
        test.assertIn((change[0], len(change)), [("undo", 2), ("put", 3), ("swap", 3)])
        test.assertTrue(all(type(at) is int and 0 <= at < len(rows) for at in change[1:]))
        test.assertEqual(len(set(change[1:])), len(change) - 1)
        now = after(now, change)
        test.assertTrue(all(len(row) <= 100000 for row in now))
    return now


def drawn_changes(source, many, times):
    """Return so many changes of so many rows."""
    found = []
    for _ in range(times):
        at, by = source.sample(range(many), 2)
        found.append(source.choice([("undo", at), ("put", at, by), ("swap", at, by)]))
    return found


def drawn_pairs(size, times, seed):
    """Return triples (deeds, rows, rows that make the same)."""
    source = random.Random(seed)
    found = []
    for deeds, rows in some_lists(150, size, seed):
        now = list(rows)
        for change in drawn_changes(source, len(rows), times) if len(rows) > 1 else []:
            behind = after(now, change)
            now = behind if all(len(row) <= 200 for row in behind) else now
        found.append((deeds, rows, now))
    return found


class WrongValuesTest(unittest.TestCase):
    def test_changed(self):
        check_first_wrong(self, changed, {"deeds": 2, "rows": [(1,), (2,), ()], "change": ("put", 0, 2)},
                          {"deeds": (BadDeeds, NOT_DEEDS), "rows": (BadRows, not_lists(2)),
                           "change": (BadChange, not_changes())})

    def test_freed(self):
        check_first_wrong(self, freed, {"deeds": 2, "rows": ROWS},
                          {"deeds": (BadDeeds, NOT_DEEDS), "rows": (BadRows, not_lists(2))})

    def test_changes_between(self):
        check_first_wrong(self, changes_between, {"deeds": 2, "one": ROWS, "other": [(1,), (2,)]},
                          {"deeds": (BadDeeds, NOT_DEEDS), "one": (BadRows, not_lists(2)),
                           "other": (BadRows, not_lists(2))})

    def test_are_changes(self):
        for value in (LED, (), [], None, 7):
            def judged(deeds, one, other):
                return are_changes(deeds, one, other, value)
            check_first_wrong(self, judged, {"deeds": 2, "one": ROWS, "other": [(1,), (2,)]},
                              {"deeds": (BadDeeds, NOT_DEEDS), "one": (BadRows, not_lists(2)),
                               "other": (BadRows, not_lists(2))})

    def test_unlike_many_behind_wrong_rows(self):
        for one, other in itertools.permutations(range(7), 2):
            for value in (LED, None, 7, []):
                with self.assertRaises(UnlikeMany):
                    are_changes(1, [(1,)] * one, [(1,)] * other, value)
            with self.assertRaises(UnlikeMany):
                changes_between(1, [(1,)] * one, [(1,)] * other)
            with self.assertRaises(BadRows):
                changes_between(1, [(1,)] * one, [(2,)] * 7)
            with self.assertRaises(BadRows):
                changes_between(1, [(2,)], [])
            with self.assertRaises(BadRows):
                are_changes(1, [], [None], [])

    def test_a_list_without_rows_has_no_changes(self):
        for change in [("undo", 0), ("put", 0, 1), ("swap", 0, 1)] + not_changes():
            with self.assertRaises(BadChange):
                changed(2, [], change)
        for change in (("undo", 1), ("put", 0, 1), ("swap", 0, 1), ("put", 0, 0)):
            with self.assertRaises(BadChange):
                changed(2, [(1,)], change)


class ChangedTest(unittest.TestCase):
    def test_some(self):
        rows = [(1, 2), (2,), (-2, 1)]
        for change, right in ((("undo", 0), [(-2, -1), (2,), (-2, 1)]), (("undo", 2), [(1, 2), (2,), (-1, 2)]),
                              (("put", 0, 2), [(1, 1), (2,), (-2, 1)]), (("put", 2, 0), [(1, 2), (2,), (-2, 1, 1, 2)]),
                              (("put", 1, 2), [(1, 2), (1,), (-2, 1)]), (("swap", 0, 2), [(-2, 1), (2,), (1, 2)]),
                              (("swap", 2, 0), [(-2, 1), (2,), (1, 2)])):
            self.assertEqual(changed(2, rows, change), right)
            self.assertEqual(changed(2, tuple(rows), change), right)
        self.assertEqual(rows, [(1, 2), (2,), (-2, 1)])

    def test_all_changes_of_drawn_rows(self):
        for deeds, rows in some_lists(60, 8, "changed"):
            for at, by in itertools.permutations(range(len(rows)), 2):
                for change in (("undo", at), ("put", at, by), ("swap", at, by)):
                    found = changed(deeds, rows, change)
                    self.assertIs(type(found), list)
                    self.assertEqual(found, after(rows, change))

    def test_rows_are_plain_behind_it(self):
        self.assertEqual(changed(2, [(1, -1, 2), (1, 2, -2)], ("undo", 0)), [(-2,), (1,)])
        self.assertEqual(changed(2, [(1, -1), (2, -2)], ("swap", 0, 1)), [(), ()])
        self.assertEqual(changed(1, [(1, -1, 1), (1,)], ("put", 1, 0)), [(1,), (1, 1)])

    def test_rows_may_get_longer_than_200_letters(self):
        found = changed(2, [(1,) * 200, (2,) * 200], ("put", 0, 1))
        self.assertEqual(found, [(1,) * 200 + (2,) * 200, (2,) * 200])
        self.assertIs(is_row(2, found[0]), False)

    def test_six_rows(self):
        rows = [(x,) for x in (1, -1, 2, -2, 3, -3)]
        self.assertEqual(changed(3, rows, ("put", 5, 4))[5], ())
        self.assertEqual(changed(3, rows, ("swap", 0, 5)), [(-3,), (-1,), (2,), (-2,), (3,), (1,)])
        with self.assertRaises(BadChange):
            changed(3, rows, ("undo", 6))


class FreedTest(unittest.TestCase):
    def check(self, deeds, rows):
        """Check that what freed tells leads to the free list and then to ()."""
        elder = list(rows)
        found = freed(deeds, rows)
        right = free_list(web_of(deeds, rows))
        self.assertEqual(after_all(self, rows, found), right + [()] * (len(rows) - len(right)), rows)
        self.assertEqual(rows, elder)
        return found

    def test_some(self):
        self.check(2, ROWS)
        self.check(2, [(1, 1, 2), (1, 2)])
        self.check(2, [(1, 1), (1, 1, 1)])
        self.check(1, [(-1,)])
        self.check(2, [(), (2,), (), (1,)])
        self.check(2, [(2, -2), (2, 1, -1)])

    def test_nothing_is_to_be_done(self):
        self.assertEqual(freed(2, []), [])
        self.assertEqual(freed(2, [()] * 6), [])
        self.assertEqual(freed(2, [(1,), (2,)]), [])
        self.assertEqual(freed(2, [(1, -1, 1), (2,), ()]), [])

    def test_all_pairs_of_short_rows(self):
        for rows in itertools.product(plain_rows(2, 3), repeat=2):
            self.check(2, list(rows))

    def test_drawn_rows(self):
        for size in (3, 6, 12, 60):
            for deeds, rows in some_lists(100, size, f"freed {size}"):
                self.check(deeds, rows)

    def test_many_times_one_row(self):
        for base in ((1,), (1, 2), (1, 2, -1)):
            for lot in ((200, 199), (144, 89), (60, 84, 35), (6, 10, 15, 0), (-4, 6, 9, 9, 9, 1)):
                rows = [(base if many > 0 else back(base)) * abs(many) for many in lot]
                self.check(2, [afresh(row)[:200] if len(base) == 1 else afresh(row[:60]) for row in rows])

    def test_long_rows(self):
        rows = [row for row in some_rows(4, 40, 200, "long freed")]
        for at in range(0, 36, 6):
            self.check(4, rows[at:at + 6])
        lot = [(1,) + (2, 1) * 99, (2, 1) * 100, (1, 2) * 100]
        self.check(2, lot)

    def test_rows_that_are_nearly_alike(self):
        # Half of each row is that of another one, so that steps which shorten nothing are needed, too.
        halves = [(1, 2), (2, 1), (1, -2), (2, 2), (-1, 2)]
        for lot in itertools.permutations(halves, 3):
            rows = [afresh(lot[0] + back(lot[1])), afresh(lot[1] + back(lot[2])), afresh(lot[2] + lot[0])]
            self.check(2, rows)
            self.check(2, [afresh(lot[0] + back(lot[1])), afresh(lot[0] + lot[2])])

    def test_rows_that_no_product_of_two_makes_shorter(self):
        # These get shorter only behind a step that leaves all as long as they are, and tells halves apart
        # by more than their first letters.
        for deeds, rows in ((2, [(-2, -2, -1), (-2, 1), (-1, -2)]), (2, [(-1, -1), (2, 1), (1, -2, 1)]),
                            (2, [(1, 2, 1), (2, -1), (-1, -1)]), (3, [(1, 2), (-2, -3), (-3, 1, -3)]),
                            (2, [(-1, -2, -1, 2, 1), (-1, -2, -2, -1, -2, 1), (-1, 2, 1, -2, -1, 2, 1)]),
                            (2, [(2, 1, 2, 1, -2), (2, 1, -2, -1, -2, -1, -2), (2, 2, 1, 2, 2, 1, 2, -1, -2)]),
                            (2, [(-2, 1, -2, -1, 2, 1, 2, 2, 2), (2, 1, 2, 2, 2), (-2, 1, -2, -1, -2, 1, 2, 2)]),
                            (2, [(1, 2, -1, 2, -1), (1, -2, -1, 2, -1, 2, 2, -1, 2, -1),
                                 (2, -1, -1, 2, -1, 2, -1)])):
            for lot in itertools.permutations(rows):
                self.check(deeds, list(lot))

    def test_made_by_changes_of_short_rows(self):
        for deeds, _, rows in drawn_pairs(3, 60, "changes of short rows"):
            self.check(deeds, rows)


class ChangesBetweenTest(unittest.TestCase):
    def test_lists_that_make_the_same(self):
        for size, times in ((2, 10), (4, 40), (8, 40)):
            for deeds, one, other in drawn_pairs(size, times, f"between {size}"):
                for first, second in ((one, other), (other, one), (one, one)):
                    found = changes_between(deeds, first, second)
                    self.assertEqual(after_all(self, first, found), [afresh(row) for row in second])
                    self.assertIs(are_changes(deeds, first, second, found), True)
                    twice = [change[0] for change, other in zip(found, found[1:]) if change == other]
                    self.assertLessEqual(set(twice), {"put"})

    def test_lists_that_make_the_same_or_not(self):
        lists = [list(rows) for rows in itertools.product(plain_rows(2, 2), repeat=2)][::5]
        same = 0
        for one, other in itertools.product(lists, repeat=2):
            found = changes_between(2, one, other)
            self.assertEqual(found is not None, web_of(2, one) == web_of(2, other))
            if found is not None:
                same += 1
                self.assertEqual(after_all(self, one, found), other)
        self.assertGreater(same, len(lists))

    def test_none(self):
        for one, other in (([(1,)], [(2,)]), ([(1,)], [(1, 1)]), ([(1,)], [()]), ([(1,), (1, 1)], [(1, 1), ()]),
                           ([(1, 2)], [(2, 1)])):
            self.assertIsNone(changes_between(2, one, other))
            self.assertIsNone(changes_between(2, other, one))

    def test_no_rows(self):
        self.assertEqual(changes_between(2, [], []), [])
        self.assertEqual(changes_between(2, (), []), [])

    def test_rows_that_are_not_plain(self):
        found = changes_between(2, [(1, -1, 2), (1,)], ((1,), (2, 1, -1)))
        self.assertEqual(after_all(self, [(2,), (1,)], found), [(1,), (2,)])

    def test_lists_and_tuples(self):
        for one, other in itertools.product([ROWS, tuple(ROWS)], [[(1,), (2,)], ((1,), (2,))]):
            self.assertIs(are_changes(2, one, other, changes_between(2, one, other)), True)


class AreChangesTest(unittest.TestCase):
    def test_example_by_hand(self):
        for kind in (list, tuple):
            self.assertIs(are_changes(2, ROWS, [(1,), (2,)], kind(LED)), True)
            self.assertIs(are_changes(2, ROWS, ((1,), (2,)), kind(LED[:2])), False)
            self.assertIs(are_changes(2, ROWS, [(1,), (-2,)], kind(LED[:2])), True)
            self.assertIs(are_changes(2, ROWS, [(2,), (1,)], kind(LED)), False)

    def test_no_changes(self):
        for kind in (list, tuple):
            self.assertIs(are_changes(2, ROWS, ROWS, kind()), True)
            self.assertIs(are_changes(2, [], [], kind()), True)
            self.assertIs(are_changes(2, [(1, -1)], [(2, -2)], kind()), True)
            self.assertIs(are_changes(2, ROWS, [(1,), (2,)], kind()), False)
            self.assertIs(are_changes(2, [], [], kind([("undo", 0)])), False)

    def test_any_value(self):
        rows = [(1,), (2,), ()]
        for value in not_changes():
            self.assertIs(are_changes(2, rows, rows, value), value in ([], ()), value)
            self.assertIs(are_changes(2, rows, rows, [value]), False, value)
            self.assertIs(are_changes(2, rows, rows, (value,)), False, value)
            self.assertIs(are_changes(2, rows, rows, [("undo", 0), value, ("undo", 0)]), False, value)
            self.assertIs(are_changes(2, rows, rows, [("undo", 0), ("undo", 0), value]), False, value)

    def test_what_is_passed_in_stays(self):
        value = list(LED)
        one, other = list(ROWS), [(1,), (2,)]
        are_changes(2, one, other, value)
        changes_between(2, one, other)
        freed(2, one)
        changed(2, one, value[0])
        self.assertEqual((value, one, other), (LED, ROWS, [(1,), (2,)]))

    def test_drawn_changes(self):
        source = random.Random("drawn changes")
        for deeds, rows in some_lists(80, 6, "are changes"):
            if len(rows) < 2:
                continue
            changes = drawn_changes(source, len(rows), 6)
            goal = rows
            for change in changes:
                goal = after(goal, change)
            if any(len(row) > 200 for row in goal):
                continue
            self.assertIs(are_changes(deeds, rows, goal, changes), True)
            for at in range(len(goal)):
                wrong = list(goal)
                wrong[at] = afresh(wrong[at][:199] + (1,))
                self.assertIs(are_changes(deeds, rows, wrong, changes), False)

    def test_rows_of_100000_letters_and_more(self):
        # 200 + 998 * 100 letters are just 100000.
        for rows in ([(1,) * 200, (1,) * 100, (1,)], [(1,) * 200, (2,) * 100, (2,)]):
            back_again = [("undo", 1)] + [("put", 0, 1)] * 998 + [("undo", 1)]
            for more, right in (([], True), ([("put", 0, 2), ("undo", 2), ("put", 0, 2), ("undo", 2)], False),
                                ([("swap", 0, 1), ("swap", 0, 1)], True), ([("undo", 0), ("undo", 0)], True),
                                ([("undo", 2), ("put", 0, 2), ("undo", 2), ("put", 0, 2)], True)):
                changes = [("put", 0, 1)] * 998 + more + back_again
                self.assertIs(are_changes(2, rows, rows, changes), right)

    def test_rows_that_grow_without_end(self):
        back_again = [("undo", 0), ("put", 1, 0), ("undo", 0), ("undo", 1), ("put", 0, 1), ("undo", 1)] * 30
        rows = [(1,), (2,)]
        self.assertIs(are_changes(2, rows, rows, ENDLESS[:2] + back_again[:6]), True)
        self.assertIs(are_changes(2, rows, rows, ENDLESS[:20] + back_again[:60]), True)
        self.assertIs(are_changes(2, rows, rows, ENDLESS + back_again), False)


if __name__ == "__main__":
    unittest.main()

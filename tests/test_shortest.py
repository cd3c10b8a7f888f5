"""Points 61 and 64 to 66: shortest lists of rings, rows that are letters, slopes, needed deeds, parted rows."""

import itertools
import math
import random
import unittest

from meankept.errors import BadDeeds, BadMove, BadNumber, BadRow, BadRows
from meankept.houses import total_kept
from meankept.moves import moves
from meankept.renamings import is_renaming, renamed
from meankept.rings import root
from meankept.rows import sums
from meankept.shortest import (as_letter, done, is_chain, is_shortest, needed, parted, rings_of, shortened, slope,
                               total)
from tests.helpers import (NOT_DEEDS, NOT_WHOLES, any_values, back, check_first_wrong, drawn_renaming, exchanges,
                           few_lists, letters, move_of, naive_moves, naive_ring, naive_rings, not_chains,
                           not_few_lists, not_moves, not_rows, plain_rows, size, some_renamings, some_rows, tell,
                           turned)

ROWS = [(1, 1, 2), (2, 1, -2)]


def done_to(deeds, move, rings):
    """Return the list of rings that a move makes of one, as it is told."""
    return naive_rings([tell(move_of(deeds, move), ring) for ring in rings])


def least_total(deeds, rows):
    """Return the least total, as single moves tell it that are tried one by one."""
    rings = naive_rings(rows)
    lesser = [rings]
    while lesser:
        rings = lesser[0]
        lesser = [other for other in (done_to(deeds, move, rings) for move in naive_moves(deeds))
                  if size(other) < size(rings)]
    return size(rings)


def standing(rings):
    """Return the set of the deeds that stand in rings."""
    return {abs(x) for ring in rings for x in ring}


def lots_of(deeds):
    """Return all manners to part the deeds into lots."""
    found = [[]]
    for deed in range(1, deeds + 1):
        more = []
        for lots in found:
            more.append(lots + [(deed,)])
            more += [lots[:at] + [lots[at] + (deed,)] + lots[at + 1:] for at in range(len(lots))]
        found = more
    return [tuple(sorted(lots)) for lots in found]


def are_parted(rings, lots):
    """Return whether each ring has letters of one lot alone."""
    return all(any(standing([ring]) <= set(lot) for lot in lots) for ring in rings)


class WrongValuesTest(unittest.TestCase):
    def test_rows(self):
        for function in (rings_of, total, is_shortest, shortened, needed, parted):
            for rows in ([()], ROWS, ((1,), (2,), (), (1, 2))):
                check_first_wrong(self, function, {"deeds": 2, "rows": rows},
                                  {"deeds": (BadDeeds, NOT_DEEDS), "rows": (BadRows, not_few_lists(2))})

    def test_done(self):
        for some in ([], [(1, (2,)), (-2, (-1, 1))]):
            check_first_wrong(self, done, {"deeds": 2, "rows": ROWS, "moves": some},
                              {"deeds": (BadDeeds, NOT_DEEDS), "rows": (BadRows, not_few_lists(2)),
                               "moves": (BadMove, not_chains())})

    def test_is_chain(self):
        for thing in any_values() + [[(1, (2,))], (), 7]:
            def judged(deeds, rows):
                return is_chain(deeds, rows, thing)
            check_first_wrong(self, judged, {"deeds": 2, "rows": ROWS},
                              {"deeds": (BadDeeds, NOT_DEEDS), "rows": (BadRows, not_few_lists(2))})

    def test_as_letter(self):
        for row in ((1, 2), (1, 2, -1, -2)):
            check_first_wrong(self, as_letter, {"deeds": 2, "row": row},
                              {"deeds": (BadDeeds, NOT_DEEDS), "row": (BadRow, not_rows(2))})

    def test_slope(self):
        check_first_wrong(self, slope, {"first": 2, "second": 1},
                          {"first": (BadNumber, NOT_WHOLES), "second": (BadNumber, NOT_WHOLES)})
        for first, second in ((0, 0), (2, 0), (0, 2), (0, -3), (-2, 0), (2, 2), (2, -4), (-3, 9), (200, 1), (1, 200),
                              (-200, 1), (1, -200), (101, 100), (-101, -100), (10 ** 29, 1), (1, -10 ** 29), (30, 42)):
            with self.assertRaises(BadNumber):
                slope(first, second)
            with self.assertRaises(BadNumber):
                slope(second=second, first=first)


class DoneTest(unittest.TestCase):
    def test_some(self):
        self.assertEqual(rings_of(2, [(2, 1, 1, -2)]), ((1, 1),))
        self.assertEqual(rings_of(2, [(2, 1), (), (1, -1, 2), (2, 1, -2)]), ((1, 2), (), (2,), (1,)))
        self.assertEqual(total(2, [(2, 1), (), (1, -1, 2), (2, 1, -2)]), 4)
        self.assertEqual(done(2, [(1, 2)], []), ((1, 2),))
        self.assertEqual(done(2, [(1, 2)], [(1, (-2,))]), ((2,),))
        self.assertEqual(done(2, [(1, 1, 2)], ((1, (-2,)), (1, (-2,)))), ((2,),))

    def test_drawn(self):
        source = random.Random("done")
        for deeds, rows in few_lists(150, 60, "done"):
            self.assertEqual(rings_of(deeds, rows), naive_rings(rows))
            self.assertEqual(rings_of(deeds, tuple(rows)), naive_rings(rows))
            self.assertEqual(total(deeds, rows), size(naive_rings(rows)))
            chain = [source.choice(naive_moves(deeds)) for _ in range(5)] if deeds > 1 else []
            right = naive_rings(rows)
            for move in chain:
                right = done_to(deeds, move, right)
            self.assertEqual(done(deeds, rows, chain), right)
            self.assertEqual(done(deeds, rows, tuple(chain)), right)
            self.assertIs(type(done(deeds, rows, chain)), tuple)


class ShortestTest(unittest.TestCase):
    def check(self, deeds, rows):
        """Check what is told of the shortest rings of rows; return how long they are."""
        found = shortened(deeds, rows)
        self.assertIs(type(found), tuple)
        chain, rings = found
        self.assertIs(type(chain), tuple)
        self.assertIs(is_chain(deeds, rows, chain), True)
        now = naive_rings(rows)
        for move in chain:
            behind = done_to(deeds, move, now)
            self.assertLess(size(behind), size(now))
            now = behind
        self.assertEqual(rings, now)
        self.assertEqual(done(deeds, rows, chain), rings)
        for move in naive_moves(deeds)[::5 if deeds == 4 else 1]:
            self.assertGreaterEqual(size(done_to(deeds, move, rings)), size(rings))
        self.assertIs(is_shortest(deeds, rings), True)
        self.assertIs(is_shortest(deeds, rows), chain == ())
        self.assertIs(is_shortest(deeds, rows), total(deeds, rows) == size(rings))
        return size(rings)

    def test_drawn(self):
        unlike = set()
        for deeds, rows in few_lists(150, 80, "shortest"):
            unlike.add(is_shortest(deeds, rows))
            self.check(deeds, rows)
        self.assertEqual(len(unlike), 2)

    def test_all_short_rows(self):
        for row in plain_rows(2, 5):
            self.assertEqual(self.check(2, [row]), least_total(2, [row]))

    def test_by_moves_tried_one_by_one(self):
        for deeds, rows in few_lists(40, 20, "one by one"):
            self.assertEqual(self.check(deeds, rows), least_total(deeds, rows))

    def test_no_renaming_makes_less(self):
        for deeds, rows in few_lists(60, 20, "no renaming"):
            least = size(shortened(deeds, rows)[1])
            for other, images in some_renamings(20, 30, f"{rows}"):
                if other == deeds:
                    self.assertGreaterEqual(size(naive_rings([tell(images, row) for row in rows])), least)

    def test_facts(self):
        source = random.Random("facts of shortest")
        for deeds, rows in few_lists(100, 20, "facts of shortest"):
            least = size(shortened(deeds, rows)[1])
            images = drawn_renaming(source, deeds, 14)
            other = [turned(source.choice([row, back(row)]), source.choice(plain_rows(deeds, 2)))
                     for row in [tell(images, row) for row in rows]]
            source.shuffle(other)
            if all(len(row) <= 200 for row in other):
                self.assertEqual(size(shortened(deeds, other)[1]), least)
            alone = [size(shortened(deeds, [row])[1]) for row in rows]
            self.assertGreaterEqual(least, sum(alone))
            if least == 0:
                self.assertEqual(set(rings_of(deeds, rows)), {()})

    def test_hidden_letters(self):
        source = random.Random("hidden")
        for _ in range(60):
            deeds = source.randint(2, 4)
            images = drawn_renaming(source, deeds, 500)
            row = images[source.randrange(deeds)]
            if len(row) <= 200:
                self.assertEqual(self.check(deeds, [row]), 1)
            if len(images[0]) <= 200 and len(images[1]) <= 200:
                self.assertEqual(self.check(deeds, [images[0], images[1]]), 2)

    def test_long_rows(self):
        for rows, right in (([(1,) * 199 + (2,)], 1), ([(1,) * 200] * 4, 800), ([(1, 2, -1, -2) * 50] * 4, 800),
                            ([(1,) * 100 + (2, 2)], 102), ([(1,) * 99 + (2,), (1,)], 2)):
            self.assertEqual(self.check(2, rows), right)

    def test_one_deed(self):
        for rows in ([()], [(1,)], [(1, 1), (-1,), (), (1, -1)]):
            self.assertEqual(shortened(1, rows), ((), naive_rings(rows)))
            self.assertIs(is_shortest(1, rows), True)
            self.assertIs(is_chain(1, rows, []), True)

    def test_is_chain(self):
        for thing in any_values() + [0, 1, -1, (1,), ((),), [()], "ab", {(1, (2,)): 1}]:
            self.assertIs(is_chain(2, [(1, 1, 2)], thing), thing == [], thing)
        good = (1, (-2,))
        for thing, right in (((), True), ([good], True), ((good, good), True), ([good] * 3, False),
                             ([(-1, (-2,))], False), ([good, (-1, (-2,))], False), ([(1, (-2, 2))], False),
                             (good, False), ([good, good, (2, (1,))], False), ([[1, (-2,)]], False)):
            self.assertIs(is_chain(2, [(1, 1, 2)], thing), right, thing)
        for wrong in not_moves():
            self.assertIs(is_chain(2, [(1, 1, 2)], [wrong]), False)
            self.assertIs(is_chain(2, [(1, 1, 2)], (good, wrong)), False)
        for move in moves(2):
            less = size(done_to(2, move, ((1, 1, 2),))) < 3
            self.assertIs(is_chain(2, [(1, 1, 2)], [move]), less)

    def test_what_is_passed_in_stays(self):
        rows, thing = [(1, 1, 2), (1, -1)], [(1, (-2,))]
        for function in (rings_of, total, is_shortest, shortened, needed, parted):
            function(2, rows)
        done(2, rows, thing)
        is_chain(2, rows, thing)
        self.assertEqual((rows, thing), ([(1, 1, 2), (1, -1)], [(1, (-2,))]))


class AsLetterTest(unittest.TestCase):
    def check(self, deeds, row):
        """Check the renaming of a row; return whether there is one."""
        images = as_letter(deeds, row)
        self.assertEqual(images is not None, size(shortened(deeds, [row])[1]) == 1)
        if images is None:
            return False
        self.assertIs(is_renaming(deeds, images), True)
        self.assertEqual(tell(images, row), (1,))
        self.assertEqual(renamed(deeds, images, row), (1,))
        self.assertEqual(math.gcd(*sums(deeds, row)), 1)
        self.assertEqual(root(deeds, row)[1], 1)
        return True

    def test_some(self):
        for row, right in (((), False), ((1,), True), ((2,), True), ((-1,), True), ((-2,), True), ((1, 1), False),
                           ((1, 2), True), ((1, 1, 2), True), ((2, 1, -2), True), ((1, 2, -1, -2), False),
                           ((1, 1, 2, 1, 2, 2, -1, -2, -2), False), ((1, 2, 1, 2), False)):
            self.assertIs(self.check(2, row), right)
        self.assertEqual(sums(2, (1, 1, 2, 1, 2, 2, -1, -2, -2)), (2, 1))
        self.assertIs(self.check(1, (1,)), True)
        self.assertIs(self.check(1, (-1,)), True)
        self.assertIs(self.check(1, (1, 1)), False)
        self.assertIs(self.check(1, ()), False)

    def test_all_short_rows(self):
        for row in plain_rows(2, 6):
            self.assertIs(self.check(2, row), least_total(2, [row]) == 1)
        for row in plain_rows(3, 3):
            self.check(3, row)

    def test_images_are_letters(self):
        source = random.Random("images are letters")
        many = 0
        for deeds, images in some_renamings(150, 300, "images are letters"):
            for image in images:
                row = turned(image, source.choice(plain_rows(deeds, 2)))
                if len(row) <= 200:
                    self.assertIs(self.check(deeds, row), True)
                    many += 1
        self.assertGreater(many, 200)

    def test_drawn(self):
        for deeds in range(1, 5):
            for row in some_rows(deeds, 60, 12, f"as letter {deeds}"):
                self.check(deeds, row)


class SlopeTest(unittest.TestCase):
    def test_examples_by_hand(self):
        for first, second, right in ((2, 1, (1, 1, 2)), (-1, 0, (-1,)), (3, 2, (1, 1, 2, 1, 2)), (2, -1, (-2, 1, 1))):
            self.assertEqual(slope(first, second), right)

    def test_sums_and_least_total(self):
        for first, second in itertools.product(range(-13, 14), repeat=2):
            if math.gcd(first, second) == 1:
                self.check(first, second)
        for first, second in ((199, 1), (1, -199), (-1, 199), (101, 99), (-123, 76), (144, -55), (73, 127)):
            self.check(first, second)

    def check(self, first, second):
        """Check that a slope has its sums and is a letter."""
        found = slope(first, second)
        self.assertEqual(sums(2, found), (first, second))
        self.assertEqual(len(found), abs(first) + abs(second))
        self.assertEqual(naive_ring(found), found)
        self.assertIsNotNone(as_letter(2, found))

    def test_letters_with_the_same_sums_are_turned_into_one_another(self):
        for row in plain_rows(2, 6):
            if as_letter(2, row) is not None:
                self.assertEqual(slope(*sums(2, row)), naive_ring(row))
        for deeds, images in some_renamings(200, 150, "slopes"):
            if deeds == 2:
                for image in images:
                    self.assertEqual(slope(*sums(2, image)), naive_ring(image))

    def test_the_most_letters(self):
        self.assertEqual(slope(1, 0), (1,))
        self.assertEqual(slope(0, 1), (2,))
        self.assertEqual(slope(0, -1), (-2,))
        self.assertEqual(slope(199, 1), (1,) * 199 + (2,))
        self.assertEqual(slope(1, -199), (-2,) * 199 + (1,))
        self.assertEqual(len(slope(-99, 101)), 200)


class NeededTest(unittest.TestCase):
    def test_some(self):
        for deeds, rows, right in ((2, [()], 0), (4, [(), (1, -1)], 0), (2, [(1, 2, -1, -2)], 2), (2, [(1, 2)], 1),
                                   (2, [(1, 2, 1, 2)], 1), (4, [(1, 2, 3, 4)], 1), (4, [(1, 2), (3, 4)], 2),
                                   (2, [(1,), (2,)], 2), (2, [(1, 2), (2, 1)], 1), (3, [(1, 2, -1, 3)], 1),
                                   (1, [(1,)], 1), (3, [(1, 1, 2, 2, 3, 3)], 3), (3, [(1, 1, 2, 2)], 2)):
            self.assertEqual(needed(deeds, rows), right, rows)

    def test_drawn(self):
        source = random.Random("needed")
        for deeds, rows in few_lists(120, 30, "needed"):
            found = needed(deeds, rows)
            self.assertEqual(found, len(standing(shortened(deeds, rows)[1])))
            images = drawn_renaming(source, deeds, 16)
            other = [tell(images, row) for row in rows]
            self.assertGreaterEqual(len(standing(naive_rings(other))), found)
            if all(len(row) <= 200 for row in other):
                self.assertEqual(needed(deeds, other), found)
            self.assertEqual(found == 0, size(naive_rings(rows)) == 0)
            base = root(deeds, rows[0])[0]
            if len(base) <= 200:
                is_one = base != () and as_letter(deeds, base) is not None
                self.assertEqual(needed(deeds, rows[:1]) == 1, is_one)


class PartedTest(unittest.TestCase):
    def check(self, deeds, rows):
        """Check the renaming and the lots of rows; return how many lots there are."""
        found = parted(deeds, rows)
        if found is None:
            return 1
        images, lots = found
        self.assertIs(type(found), tuple)
        self.assertIs(type(lots), tuple)
        self.assertIs(is_renaming(deeds, images), True)
        self.assertGreaterEqual(len(lots), 2)
        self.assertEqual(lots, tuple(sorted(tuple(sorted(set(lot))) for lot in lots)))
        self.assertEqual(sorted(sum(lots, ())), list(range(1, deeds + 1)))
        self.assertNotIn((), lots)
        self.assertTrue(are_parted(naive_rings([tell(images, row) for row in rows]), lots))
        return len(lots)

    def test_examples_by_hand(self):
        self.assertEqual(parted(3, [(1, 2, -1, -2), (3, 3)])[1], ((1, 2), (3,)))
        self.assertEqual(self.check(3, [(1, 2, -1, -2), (3, 3)]), 2)
        self.assertEqual(parted(3, [(1, 2, 1, 3)])[1], ((1,), (2,), (3,)))
        self.assertEqual(self.check(3, [(1, 2, 1, 3)]), 3)
        self.assertEqual(naive_ring(tell([(1,), (2,), (-1, -2, -1, 3)], (1, 2, 1, 3))), (3,))

    def test_some(self):
        for deeds, rows, right in ((1, [()], 1), (1, [(1,)], 1), (2, [()], 2), (4, [(), ()], 4), (2, [(1, 2)], 2),
                                   (2, [(1, 2, -1, -2)], 1), (2, [(1,), (2,)], 2), (2, [(1, 2), (2, 1, 1)], 2),
                                   (2, [(1, 1), (1, 2, 1, 2)], 2), (2, [(1, 2), (1, -2)], 1),
                                   (4, [(1, 2, -1, -2), (3, 4, -3, -4)], 2), (4, [(1, 2, -1, -2), (2, 3, -2, -3)], 2),
                                   (3, [(1, 2), (2, 3), (1, 3)], 1), (4, [(1, 1, 2, 2, 3, 3)], 2)):
            self.assertEqual(self.check(deeds, rows), right, rows)

    def test_drawn(self):
        source = random.Random("parted")
        for deeds, rows in few_lists(150, 30, "parted"):
            many = self.check(deeds, rows)
            images = drawn_renaming(source, deeds, 16)
            other = [tell(images, row) for row in rows]
            if all(len(row) <= 200 for row in other):
                self.assertEqual(self.check(deeds, other), many)
            for lots in lots_of(deeds):
                if are_parted(naive_rings(other), lots):
                    self.assertLessEqual(len(lots), many)
            if deeds > 1:
                for row in rows:
                    one = self.check(deeds, [row])
                    self.assertEqual(one > 1, needed(deeds, [row]) < deeds)
                    if row and one > 1:
                        self.assertEqual(one, 1 + deeds - max(needed(deeds, [row]), 1))

    def test_as_many_lots_as_short_renamings_find(self):
        lot = [images for deeds, images in some_renamings(400, 9, "short ones") if deeds == 3]
        for deeds, rows in few_lists(60, 8, "as many"):
            if deeds == 3:
                most = max(len(lots) for images in lot for lots in lots_of(3)
                           if are_parted(naive_rings([tell(images, row) for row in rows]), lots))
                self.assertGreaterEqual(self.check(3, rows), most)

    def test_hidden_parts(self):
        source = random.Random("hidden parts")
        for _ in range(60):
            one = tuple(source.choice([1, -1, 2, -2]) for _ in range(source.randint(0, 8)))
            other = tuple(source.choice([3, -3, 4, -4]) for _ in range(source.randint(0, 8)))
            images = drawn_renaming(source, 4, 40)
            rows = [tell(images, one), tell(images, other)]
            if all(len(row) <= 200 for row in rows):
                self.assertGreaterEqual(self.check(4, rows), 2)


class MeansTest(unittest.TestCase):
    def test_letters_keep_as_letters(self):
        for row in plain_rows(2, 4):
            if as_letter(2, row) is not None:
                for places in (1, 2, 3):
                    self.assertEqual(total_kept(2, [row], places), total_kept(2, [(1,)], places))

    def test_exchanges_leave_the_total(self):
        for images in exchanges(3):
            rows = [tell(images, row) for row in ROWS]
            self.assertEqual(total(3, rows), total(3, ROWS))
        self.assertEqual(letters(2), [-2, -1, 1, 2])


if __name__ == "__main__":
    unittest.main()

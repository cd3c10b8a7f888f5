"""Points 9 and 41 to 43: what is a renaming, what it does, the back one, and turning by a row."""

import itertools
import random
import unittest

from meankept.errors import BadDeeds, BadRenaming, BadRow, TooMany
from meankept.houses import least_house, total_kept
from meankept.renamings import back_renaming, behind, is_renaming, renamed, turned_by
from meankept.rings import meet_power, ring_of, root
from meankept.rows import beside, sums, times_row, undone
from meankept.webs import rank, web_of
from tests.helpers import (NOT_DEEDS, any_values, back, check_first_wrong, exchanges, follow, in_turn, is_plain,
                           letters, naive_ring, not_renamings, not_rows, plain_rows, same, size, some_renamings,
                           some_rows, tell, turned)

NIELSEN = ((1, 2, 1), (1, 2))


def determinant(table):
    """Return the determinant of a square table."""
    if not table:
        return 1
    return sum((-1) ** at * top * determinant([row[:at] + row[at + 1:] for row in table[1:]])
               for at, top in enumerate(table[0]))


def makes_all(deeds, rows):
    """Return whether rows make each deed, as a folded web tells that is gone through step by step."""
    web = web_of(deeds, rows)
    return all(follow(web, (deed,)) == 0 for deed in range(1, deeds + 1))


def naive_turned_by(deeds, images, most):
    """Return the row of at most so many letters by which all deeds, turned, are the images, if there is one."""
    for by in plain_rows(deeds, most):
        if all(turned((deed,), by) == image for deed, image in zip(range(1, deeds + 1), images)):
            return by
    return None


class WrongValuesTest(unittest.TestCase):
    def test_is_renaming(self):
        for value in any_values() + [same(2)]:
            for deeds in NOT_DEEDS:
                with self.assertRaises(BadDeeds):
                    is_renaming(deeds, value)

    def test_renamed(self):
        check_first_wrong(self, renamed, {"deeds": 2, "renaming": NIELSEN, "row": (1, 2)},
                          {"deeds": (BadDeeds, NOT_DEEDS), "renaming": (BadRenaming, not_renamings()),
                           "row": (BadRow, not_rows(2))})

    def test_behind(self):
        check_first_wrong(self, behind, {"deeds": 2, "first": NIELSEN, "second": same(2)},
                          {"deeds": (BadDeeds, NOT_DEEDS), "first": (BadRenaming, not_renamings()),
                           "second": (BadRenaming, not_renamings())})

    def test_back_and_turned_by(self):
        for function in (back_renaming, turned_by):
            check_first_wrong(self, function, {"deeds": 2, "renaming": NIELSEN},
                              {"deeds": (BadDeeds, NOT_DEEDS), "renaming": (BadRenaming, not_renamings())})

    def test_wrong_ones_ahead_of_too_many(self):
        much = ((1,), (1,) * 2500 + (2,))
        with self.assertRaises(BadRenaming):
            behind(2, much, ((1,), (1,)))
        with self.assertRaises(BadRenaming):
            behind(2, ((1,), (1,)), much)
        with self.assertRaises(BadDeeds):
            behind(True, much, much)
        with self.assertRaises(BadRenaming):
            back_renaming(3, much)


class IsRenamingTest(unittest.TestCase):
    def test_wrong_ones(self):
        for value in not_renamings():
            self.assertIs(is_renaming(2, value), False, value)

    def test_one_deed(self):
        for row in plain_rows(1, 4):
            self.assertIs(is_renaming(1, (row,)), row in ((1,), (-1,)))
        self.assertIs(is_renaming(1, ()), False)
        self.assertIs(is_renaming(1, ((1,), (1,))), False)
        self.assertIs(is_renaming(1, ((1, -1, 1),)), False)

    def test_two_deeds_by_the_fact(self):
        goal = naive_ring((1, 2, -1, -2))
        for one, other in itertools.product(plain_rows(2, 4), repeat=2):
            ring = naive_ring(one + other + back(one) + back(other))
            right = ring in (goal, naive_ring(back(goal)))
            self.assertIs(is_renaming(2, (one, other)), right, (one, other))

    def test_three_deeds_by_webs(self):
        lot = plain_rows(3, 2)
        source = random.Random("three")
        for _ in range(3000):
            rows = tuple(source.choice(lot) for _ in range(3))
            self.assertIs(is_renaming(3, rows), makes_all(3, rows), rows)

    def test_exchanges(self):
        for deeds in range(1, 5):
            for images in exchanges(deeds):
                self.assertIs(is_renaming(deeds, images), True)
                for other in range(1, 5):
                    if other != deeds:
                        self.assertIs(is_renaming(other, images), False)

    def test_drawn_ones(self):
        source = random.Random("is renaming")
        for deeds, images in some_renamings(200, 400, "drawn ones"):
            self.assertIs(is_renaming(deeds, images), True)
            self.assertIs(is_renaming(deeds, list(images)), False)
            at = source.randrange(deeds)
            for other in (images[at] * 2, images[at - 1] * (deeds - 1), ()):
                wrong = images[:at] + (tell([other], (1,)),) + images[at + 1:]
                self.assertIs(is_renaming(deeds, wrong), False)
            # A letter and its undo put in, so that a row is no longer plain.
            if len(images[at]) < 200:
                wrong = images[:at] + (images[at] + (1, -1),) + images[at + 1:]
                self.assertIs(is_renaming(deeds, wrong), False)

    def test_images_of_many_letters(self):
        for many in (199, 200, 201, 5000):
            self.assertIs(is_renaming(2, ((1,), (1,) * many + (2,) + (-1,) * many)), True)
            self.assertIs(is_renaming(2, ((1,), (1,) * many + (2, 2) + (-1,) * many)), False)
            self.assertIs(is_renaming(2, ((1,), (1,) * many + (2, 1, -1))), False)
            self.assertIs(is_renaming(2, ((1,), (1,) * many)), False)


class RenamedTest(unittest.TestCase):
    def test_some(self):
        for row, right in (((), ()), ((1,), (1, 2, 1)), ((-1,), (-1, -2, -1)), ((2,), (1, 2)), ((-2,), (-2, -1)),
                           ((1, 2), (1, 2, 1, 1, 2)), ((1, 2, -2), (1, 2, 1)), ((2, -1), (1, 2, -1, -2, -1)),
                           ((-2, 1), (1,)), ((-1, 2, 2), (2,)), ((2, -2), ())):
            self.assertEqual(renamed(2, NIELSEN, row), right)

    def test_drawn(self):
        for deeds, images in some_renamings(150, 300, "renamed"):
            for row in some_rows(deeds, 4, 30, f"{images}"):
                found = renamed(deeds, images, row)
                self.assertIs(type(found), tuple)
                self.assertEqual(found, tell(images, row))
                self.assertTrue(is_plain(found))

    def test_long_rows_of_long_images(self):
        images = ((1,), (1,) * 3000 + (2,))
        self.assertEqual(renamed(2, images, (2,) * 200), ((1,) * 3000 + (2,)) * 200)
        self.assertEqual(renamed(2, images, (1, -1) * 100), ())
        self.assertEqual(renamed(2, images, (2, -1, -2, 2, 1, -2)), ())

    def test_facts(self):
        for deeds, images in some_renamings(80, 120, "facts"):
            rows = some_rows(deeds, 6, 6, f"facts {images}")
            for one, other in zip(rows, rows[1:]):
                self.check_pair(deeds, images, one, other)
            table = [list(sums(deeds, image)) for image in images]
            self.assertIn(determinant(table), (1, -1))
            long = [renamed(deeds, images, row) for row in rows]
            if all(len(row) <= 200 for row in long):
                self.assertEqual(rank(web_of(deeds, rows)), rank(web_of(deeds, long)))

    def check_pair(self, deeds, images, one, other):
        """Check the facts of two rows and their renamed ones."""
        mine, its = renamed(deeds, images, one), renamed(deeds, images, other)
        if max(len(mine), len(its)) > 200:
            return
        self.assertEqual(renamed(deeds, images, beside(deeds, one, other)), beside(deeds, mine, its))
        self.assertEqual(renamed(deeds, images, undone(deeds, one)), undone(deeds, mine))
        self.assertEqual(ring_of(deeds, one) == ring_of(deeds, other), ring_of(deeds, mine) == ring_of(deeds, its))
        base, many = root(deeds, one)
        self.assertEqual(root(deeds, mine), (renamed(deeds, images, base), many))
        self.assertEqual(meet_power(deeds, one, other)[0], meet_power(deeds, mine, its)[0])
        told = [sum(times * part for times, part in zip(sums(deeds, one), parts))
                for parts in zip(*[sums(deeds, image) for image in images])]
        self.assertEqual(sums(deeds, mine), tuple(told))

    def test_commuting_rows_stay_so(self):
        for deeds, images in some_renamings(60, 60, "commuting"):
            for row in some_rows(deeds, 3, 4, f"commuting {images}"):
                twice, thrice = [renamed(deeds, images, times_row(deeds, row, many)) for many in (2, -3)]
                if len(thrice) <= 200:
                    self.assertEqual(meet_power(deeds, twice, thrice)[0], "powers")


class HousesTest(unittest.TestCase):
    """The facts of points 23 and 24 that speak of renamings."""

    def test_total_kept_stays(self):
        for deeds, images in some_renamings(80, 20, "houses"):
            if deeds < 4:
                rows = some_rows(deeds, 2, 4, f"houses {images}")
                other = [tell(images, row) for row in rows]
                for places in (1, 2, 3):
                    self.assertEqual(total_kept(deeds, rows, places), total_kept(deeds, other, places))

    def test_least_houses_have_as_many_places(self):
        many = 0
        for deeds, images in some_renamings(150, 12, "least houses"):
            for row in some_rows(deeds, 3, 5, f"least {images}"):
                other = tell(images, row)
                if row != () and tell([row], (1,)) != () and len(other) <= 12:
                    self.assertEqual(least_house(deeds, row)[0], least_house(deeds, other)[0])
                    many += 1
        self.assertGreater(many, 100)


class BehindTest(unittest.TestCase):
    def test_drawn(self):
        source = random.Random("behind")
        lots = {}
        for deeds, images in some_renamings(200, 60, "behind"):
            lots.setdefault(deeds, []).append(images)
        for deeds, lot in lots.items():
            for _ in range(100):
                first, second = source.choice(lot), source.choice(lot)
                right = in_turn(first, second)
                if size(right) <= 2000:
                    found = behind(deeds, first, second)
                    self.assertEqual(found, right)
                    self.assertIs(is_renaming(deeds, found), True)
                    for row in some_rows(deeds, 2, 5, "behind rows"):
                        self.assertEqual(tell(found, row), tell(second, tell(first, row)))

    def test_2000_letters_and_more(self):
        for many in (1, 2, 1997, 1998, 1999, 2000, 2500):
            first = ((1,), (1,) * (many - 1) + (2,))
            second = ((1,), (1, 2))
            if many + 2 <= 2000:
                self.assertEqual(behind(2, first, second), ((1,), (1,) * many + (2,)))
            else:
                with self.assertRaises(TooMany) as caught:
                    behind(2, first, second)
                self.assertEqual(caught.exception.most, 2000)

    def test_the_images_that_are_passed_may_be_longer(self):
        much = ((1,), (1,) * 3000 + (2,))
        less = ((1,), (-1,) * 3000 + (2,))
        self.assertEqual(behind(2, much, less), same(2))
        self.assertEqual(behind(2, less, much), same(2))
        for other in (much, same(2)):
            for given in ((much, other), (other, much)):
                with self.assertRaises(TooMany):
                    behind(2, *given)

    def test_one_deed(self):
        for one, other in itertools.product((1, -1), repeat=2):
            self.assertEqual(behind(1, ((one,),), ((other,),)), ((one * other,),))
            self.assertEqual(back_renaming(1, ((one,),)), ((one,),))


class BackTest(unittest.TestCase):
    def test_drawn(self):
        many = 0
        for deeds, images in some_renamings(300, 300, "back"):
            try:
                found = back_renaming(deeds, images)
            except TooMany as error:
                self.assertEqual(error.most, 2000)
                continue
            many += 1
            self.assertLessEqual(size(found), 2000)
            self.assertIs(is_renaming(deeds, found), True)
            self.assertEqual(in_turn(images, found), same(deeds))
            self.assertEqual(in_turn(found, images), same(deeds))
            self.assertEqual(behind(deeds, images, found), same(deeds))
            self.assertEqual(behind(deeds, found, images), same(deeds))
            if size(images) <= 2000:
                self.assertEqual(back_renaming(deeds, found), images)
        self.assertGreater(many, 200)

    def test_exchanges(self):
        for deeds in range(1, 5):
            for images in exchanges(deeds):
                self.assertEqual(in_turn(images, back_renaming(deeds, images)), same(deeds))

    def test_2000_letters_and_more(self):
        # The back renaming of ((1,), (1, .., 2)) is as long as this one.
        for many in (1, -1, 70, -1997, 1998, -1999):
            letter, much = (1, many) if many > 0 else (-1, -many)
            images = ((1,), (letter,) * much + (2,))
            if much <= 1998:
                self.assertEqual(back_renaming(2, images), ((1,), (-letter,) * much + (2,)))
            else:
                with self.assertRaises(TooMany) as caught:
                    back_renaming(2, images)
                self.assertEqual(caught.exception.most, 2000)

    def test_2000_letters_by_longer_ways(self):
        # Back, 3 becomes (-2, .., -2, 3) with each -2 led on to (-2, 1, .., 1).
        for more, fits in ((178, True), (179, True), (180, False), (1000, False)):
            images = ((1,), (1,) * 17 + (2,), (2,) * 100 + (3,), (1,) * more + (4,))
            if fits:
                right = ((1,), (-1,) * 17 + (2,), ((-2,) + (1,) * 17) * 100 + (3,), (-1,) * more + (4,))
                self.assertEqual(back_renaming(4, images), right)
                self.assertEqual(size(right), 1821 + more)
            else:
                with self.assertRaises(TooMany):
                    back_renaming(4, images)

    def test_much_more(self):
        with self.assertRaises(TooMany):
            back_renaming(4, ((1,), (1,) * 60 + (2,), (2,) * 60 + (3,), (3,) * 60 + (4,)))

    def test_long_images_with_a_short_back_renaming(self):
        right = ((1,), (1,) * 40 + (2,), (2,) * 60 + (3,))
        images = ((1,), (-1,) * 40 + (2,), ((-2,) + (1,) * 40) * 60 + (3,))
        self.assertGreater(size(images), 2000)
        self.assertEqual(back_renaming(3, images), right)
        with self.assertRaises(TooMany):
            back_renaming(3, right)


class TurnedByTest(unittest.TestCase):
    def test_examples_by_hand(self):
        self.assertEqual(turned_by(2, ((1,), (1, 2, -1))), (1,))
        self.assertIsNone(turned_by(3, ((1,), (2,), (2, 3, -2))))
        self.assertEqual(renamed(3, ((1,), (2,), (2, 3, -2)), (1, 3)), (1, 2, 3, -2))

    def test_one_deed(self):
        self.assertEqual(turned_by(1, ((1,),)), ())
        self.assertIsNone(turned_by(1, ((-1,),)))

    def test_turned_by_short_rows(self):
        for deeds, most in ((2, 4), (3, 3), (4, 2)):
            for by in plain_rows(deeds, most):
                images = tuple(turned((deed,), by) for deed in range(1, deeds + 1))
                self.assertEqual(turned_by(deeds, images), by)

    def test_turned_by_long_rows(self):
        for deeds in (2, 3, 4):
            for row in some_rows(deeds, 30, 200, f"turned {deeds}"):
                by = tell([row], (1,))
                images = tuple(turned((deed,), by) for deed in range(1, deeds + 1))
                self.assertEqual(turned_by(deeds, images), by)
        for by in ((1,) * 3000, (2,) * 3000, (1, 2) * 1500, (-1,) * 500 + (2,) * 500 + (1,) * 500):
            images = (turned((1,), by), turned((2,), by))
            self.assertEqual(turned_by(2, images), by)

    def test_all_short_renamings(self):
        for one, other in itertools.product(plain_rows(2, 3), repeat=2):
            if is_renaming(2, (one, other)):
                self.assertEqual(turned_by(2, (one, other)), naive_turned_by(2, (one, other), 3), (one, other))

    def test_nearly(self):
        for by in plain_rows(3, 2):
            images = [turned((deed,), by) for deed in (1, 2, 3)]
            for at in range(3):
                for other in letters(3):
                    wrong = list(images)
                    wrong[at] = turned(images[at], (other,))
                    if is_renaming(3, tuple(wrong)):
                        self.assertEqual(turned_by(3, tuple(wrong)), naive_turned_by(3, wrong, 3))
                wrong = list(images)
                wrong[at] = back(images[at])
                self.assertIsNone(turned_by(3, tuple(wrong)))

    def test_exchanges(self):
        for deeds in range(1, 5):
            for images in exchanges(deeds):
                self.assertEqual(turned_by(deeds, images), () if images == same(deeds) else None)

    def test_the_rings_tell(self):
        found = {True: 0, False: 0}
        for deeds, images in some_renamings(300, 60, "rings tell"):
            if deeds > 1:
                for by in some_rows(deeds, 1, 6, f"{images}"):
                    self.check_rings(deeds, images, found)
                    self.check_rings(deeds, tuple(turned((deed,), by) for deed in range(1, deeds + 1)), found)
        for letter, lot in ((1, (2,)), (1, (-2, 2)), (3, (-1, 1)), (1, (-3, -2, 2, 3)), (-2, (-1, 1))):
            images = []
            for deed in (1, 2, 3):
                row = ((-letter,) if -deed in lot else ()) + (deed,) + ((letter,) if deed in lot else ())
                images.append(row)
            self.check_rings(3, tuple(images), found)
        self.assertGreater(min(found.values()), 30)

    def check_rings(self, deeds, images, found):
        """Check that the rings of renamed rows tell whether there is a row."""
        right = all(naive_ring(image) == (deed,) for deed, image in zip(range(1, deeds + 1), images))
        for x, y in itertools.permutations(range(1, deeds + 1), 2):
            right = right and all(len(naive_ring(tell(images, row))) == 2 for row in ((x, y), (x, -y)))
        by = turned_by(deeds, images)
        self.assertEqual(by is not None, right)
        found[right] += 1
        if by is not None:
            for row in some_rows(deeds, 3, 6, "turn all"):
                self.assertEqual(tell(images, row), turned(tell([row], (1,)), by))


if __name__ == "__main__":
    unittest.main()

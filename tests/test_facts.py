"""Facts that tie parts of the program together, and the heart of point 2, on drawn inputs."""

import random
import unittest

from meankept.between import free_in
from meankept.common import common
from meankept.depths import depth, keeps_alone, leading, least_unlike
from meankept.errors import TooMany
from meankept.fractions import mean_fraction
from meankept.houses import kept, least_house, total_kept
from meankept.hulls import bound_webs, hull, is_bound
from meankept.made import made_of, nothing_of
from meankept.means import mean, share
from meankept.neighbours import cut_down, groups
from meankept.pictures import joint, lies_over, part, pictures, pictures_of
from meankept.renamings import back_renaming, behind, renamed
from meankept.rings import meet_power, root
from meankept.shares import mean_product, own_share
from meankept.shortest import as_letter, needed, parted, total
from meankept.texts import read_renaming, read_row, renaming_text, row_text
from meankept.turned import turners, web_turned
from meankept.webs import free_list, is_over, makes, rank, web_of
from meankept.widest import near_turned, steps_over, widest
from tests.helpers import (back, drawn_renaming, few_lists, plain_rows, same, size, some_lists, some_renamings, some_rows,
                           some_webs, tell, turned, whole, worth)


class RenamedTest(unittest.TestCase):
    def test_total_kept_and_least_house(self):
        source = random.Random("renamed totals")
        many = 0
        for deeds, rows in some_lists(80, 4, "renamed totals"):
            images = drawn_renaming(source, deeds, 12)
            other = [tell(images, row) for row in rows]
            if all(len(row) <= 200 for row in other):
                for places in (1, 2, 3) if deeds < 4 else (1, 2):
                    self.assertEqual(total_kept(deeds, other, places), total_kept(deeds, rows, places))
            for row, its in zip(rows, other):
                if 0 < len(row) <= 12 and 0 < len(its) <= 12:
                    self.assertEqual(least_house(deeds, row)[0], least_house(deeds, its)[0])
                    many += 1
        self.assertGreater(many, 40)

    def test_least_house_by_the_means(self):
        for row in plain_rows(2, 5)[1:]:
            least = least_house(2, row)[0]
            for places in range(1, 6):
                self.assertEqual(mean(2, [row], places) == places, places < least)

    def test_there_and_back(self):
        for deeds, images in some_renamings(60, 40, "there and back"):
            try:
                its = back_renaming(deeds, images)
            except TooMany:
                continue
            self.assertEqual(behind(deeds, images, its), same(deeds))
            self.assertEqual(behind(deeds, its, images), same(deeds))
            for row in some_rows(deeds, 3, 6, "there and back"):
                there = renamed(deeds, images, row)
                if len(there) <= 200:
                    self.assertEqual(renamed(deeds, its, there), tell([row], (1,)))
            self.assertEqual(read_renaming(deeds, renaming_text(deeds, images)), images)

    def test_what_renamings_leave(self):
        source = random.Random("what renamings leave")
        for deeds in (2, 3):
            for row in some_rows(deeds, 50, 5, f"what renamings leave {deeds}"):
                other = tell(drawn_renaming(source, deeds, 8), row)
                if web_of(deeds, [other])[1] <= 8:
                    self.assertEqual(leading(deeds, row), leading(deeds, other))
                    self.assertEqual(least_unlike(deeds, row), least_unlike(deeds, other))
                    self.assertEqual(needed(deeds, [row]), needed(deeds, [other]))
                    self.assertEqual(root(deeds, row)[1], root(deeds, other)[1])
                    for places in (2, 3, 5):
                        self.assertEqual(mean(deeds, [row], places), mean(deeds, [other], places))


class LettersTest(unittest.TestCase):
    def test_letters_in_all_ways(self):
        counts = {True: 0, False: 0}
        for deeds in (1, 2, 3, 4):
            for row in some_rows(deeds, 70, 6, f"letters {deeds}"):
                web = web_of(deeds, [row])
                right = as_letter(deeds, row) is not None
                counts[right] += 1
                self.assertIs(depth(deeds, row) is None, right)
                self.assertIs(leading(deeds, row) is None, right)
                self.assertIs(least_unlike(deeds, row) is None, right)
                self.assertIs(mean_fraction(deeds, [row])[:2] == ((1,), (1,)), right)
                if web[2]:
                    self.assertIs(free_in(web, whole(deeds)), right)
                    self.assertIs(keeps_alone(deeds, [row]), right)
                    self.assertEqual(rank(hull(web, whole(deeds))), needed(deeds, [row]))
                if right:
                    self.assertEqual(renamed(deeds, as_letter(deeds, row), row), (1,))
                    self.assertTrue(all(mean(deeds, [row], places) == 1 for places in range(1, 9)))
                self.assertEqual(total(deeds, [cut_down(deeds, [row])[1][0]]) == 1, right)
        self.assertGreater(min(counts.values()), 60)

    def test_groups(self):
        for deeds, rows in few_lists(60, 12, "groups"):
            lot = groups(deeds, rows)
            self.assertEqual(sum(many for _, many in lot), needed(deeds, rows))
            lots = parted(deeds, rows)
            idle = deeds - sum(many for _, many in lot)
            if lots is not None:
                self.assertEqual(len(lots[1]), len(lot) + idle)
            else:
                self.assertLessEqual(len(lot) + idle, 1)

    def test_commuting_rows_and_webs(self):
        counts = {True: 0, False: 0}
        for one in plain_rows(2, 3):
            for other in plain_rows(2, 3)[::4] + [tell([one], (1, 1)), back(one)]:
                right = rank(web_of(2, [one, other])) <= 1
                self.assertIs(meet_power(2, one, other)[0] == "powers", right)
                counts[right] += 1
        self.assertGreater(min(counts.values()), 100)


class HeartTest(unittest.TestCase):
    def test_means_are_sums(self):
        for deeds, rows in some_lists(80, 3, "means are sums"):
            web = web_of(deeds, rows)
            if web[1] <= 7:
                for places in (1, 2, 4, 30):
                    right = worth(mean(deeds, rows, places))
                    self.assertEqual(sum(worth(share(picture, places)) for picture in pictures(deeds, rows)), right)
                    self.assertEqual(sum(worth(own_share(other, places)) for other in bound_webs(web)), right)
                    if deeds == 1 and places == 4:
                        self.assertEqual(worth(total_kept(deeds, rows, 4)), right * 24)

    def test_just_one_between(self):
        for web in some_webs(60, 6, "just one between"):
            for outer in pictures_of(web)[:6] + [whole(web[0])]:
                between = hull(web, outer)
                self.assertIs(is_bound(web, between) and free_in(between, outer), True)
                lot = [other for other in pictures_of(web) if is_over(outer, other)
                       and is_bound(web, other) and free_in(other, outer)]
                self.assertEqual(lot, [between])

    def test_papers(self):
        for deeds, rows in some_lists(80, 5, "papers"):
            web = web_of(deeds, rows)
            self.assertEqual(nothing_of(deeds, rows) is None, len(rows) == rank(web))
            for row in some_rows(deeds, 4, 5, "papers"):
                if web[1] + len(row) <= 60:
                    word, paper = made_of(deeds, rows, row)
                    self.assertEqual(word == "made", makes(web, row))
                    if word == "parted":
                        self.assertIn(0, kept(deeds, paper, rows))
                        self.assertNotIn(0, kept(deeds, paper, [row]))
                    else:
                        self.assertEqual(tell(rows, paper), tell([row], (1,)))

    def test_first_and_last_of_pictures(self):
        for web in some_webs(40, 5, "first and last"):
            lot = pictures_of(web)
            for one in lot[:8]:
                for other in lot[:8]:
                    first, last = joint(one, other), part(web, common(one, other))
                    self.assertTrue({first, last} <= set(lot))
                    for picture in lot:
                        if lies_over(one, picture) and lies_over(other, picture):
                            self.assertIs(lies_over(first, picture), True)
                        if lies_over(picture, one) and lies_over(picture, other):
                            self.assertIs(lies_over(picture, last), True)

    def test_turned_and_wide(self):
        source = random.Random("turned and wide")
        for web in some_webs(60, 6, "turned and wide"):
            row = source.choice(plain_rows(web[0], 3))
            if web[2]:
                self.assertIs(makes(widest(web), row), near_turned(web, row))
                self.assertIs(makes(turners(web), row), web_turned(web, row) == web)
                self.assertIs(is_over(widest(web), turners(web)), True)
                self.assertEqual(rank(web) - 1, steps_over(widest(web), web) * (rank(widest(web)) - 1))
                self.assertIs(is_bound(web, widest(web)), True)
            self.assertEqual([turned(its, row) for its in free_list(web) if not makes(
                web_turned(web, row), turned(its, row))], [])

    def test_products(self):
        for row in some_rows(2, 30, 4, "products"):
            for by in ((1,), (2, -1)):
                other = turned(row, by)
                if len(row) + len(other) <= 10:
                    for places in (2, 3, 9):
                        self.assertEqual(mean_product(2, row, other, places), mean_product(2, row, row, places))
            self.assertEqual(read_row(2, row_text(2, row)), tell([row], (1,)))
            self.assertEqual(size([row]), len(row))


if __name__ == "__main__":
    unittest.main()

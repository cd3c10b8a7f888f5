"""All examples by hand of the document, point by point."""

import fractions
import unittest

from meankept.between import free_in, joinings, lengthened
from meankept.common import common, common_pieces
from meankept.depths import depth, leading, least_unlike
from meankept.fractions import mean_fraction
from meankept.full import full_webs
from meankept.houses import kept, least_house, total_kept
from meankept.hulls import bound_webs, hull, is_bound
from meankept.levels import alike, level
from meankept.lists import are_changes
from meankept.made import made_of, nothing_of
from meankept.means import mean
from meankept.moves import back_move, move_renaming
from meankept.neighbours import cut_down, cut_letters, groups, loose_letters, neighbours, pieces
from meankept.pictures import joined, joint, pictures, seen
from meankept.renamings import renamed, turned_by
from meankept.rings import meet_power, ring_of, root, turner
from meankept.shares import mean_product, own_share
from meankept.shortest import needed, parted, rings_of, slope
from meankept.texts import renaming_text
from meankept.turned import stays_turned, turners
from meankept.webs import rank, ways, web_of
from meankept.widest import step_rows, steps_over, widest
from tests.helpers import tell, turned, worth

COMMUTATOR = (2, 4, ((0, 1, 1), (0, 2, 2), (1, 2, 3), (2, 1, 3)))
WHOLE = (2, 1, ((0, 1, 0), (0, 2, 0)))
HOUSE = ((1, 2, 0), (0, 2, 1))


class RowsTest(unittest.TestCase):
    def test_points_14_and_15(self):
        self.assertEqual(ring_of(2, (2, 1, 1, -2)), (1, 1))
        self.assertEqual(root(2, (2, 1, 1, -2)), ((2, 1, -2), 2))
        self.assertEqual(ring_of(2, (1, 2, -1)), (2,))
        word, by = turner(2, (1, 2), (2, 1))
        self.assertEqual((word, turned((1, 2), by)), ("turned", (2, 1)))
        self.assertEqual(turner(2, (1,), (-1,)), ("unlike", (1,), (-1,)))
        self.assertEqual(meet_power(2, (1, 1), (-1, -1, -1)), ("powers", (1,), 2, -3))
        self.assertEqual(meet_power(2, (), (2, 2)), ("powers", (2,), 0, 2))
        self.assertEqual(meet_power(2, (1, 1), (2,)), ("apart", (1, 1, 2, -1, -1, -2)))

    def test_points_23_and_24(self):
        self.assertEqual(total_kept(1, [(1,)], 3), 6)
        self.assertEqual(total_kept(2, [(1, 2, -1, -2)], 3), 54)
        places, house, place = least_house(1, (1, 1))
        self.assertEqual(places, 3)
        self.assertIn(house, [((1, 2, 0),), ((2, 0, 1),)])
        self.assertIn(place, range(3))
        self.assertEqual(least_house(2, (1, 2, -1, -2))[0], 3)
        self.assertNotIn(least_house(2, (1, 2, -1, -2))[2], kept(2, least_house(2, (1, 2, -1, -2))[1], [(1, 2, -1, -2)]))

    def test_points_31_33_and_35(self):
        self.assertEqual(web_of(2, [(1, 2, -1)]), (2, 2, ((0, 1, 1), (1, 2, 1))))
        self.assertEqual(ways(web_of(2, [(1, 2, -1)])), [(), (1,)])
        self.assertEqual(web_of(2, [(1, 1, 2), (1, 2)]), WHOLE)
        word, house = made_of(2, [(1, 1), (2,)], (1,))
        self.assertEqual(word, "parted")
        self.assertIn(0, kept(2, house, [(1, 1), (2,)]))
        self.assertNotIn(0, kept(2, house, [(1,)]))
        self.assertIn(0, kept(2, ((1, 0), (0, 1)), [(1, 1), (2,)]))
        spelling = nothing_of(2, [(1,), (1, 1)])
        self.assertEqual(tell([(1,), (1, 1)], spelling), ())
        self.assertEqual(tell([(1,), (1, 1)], (1, 1, -2)), ())
        changes = [("undo", 1), ("put", 0, 1), ("undo", 1)]
        self.assertIs(are_changes(2, [(1, 2), (2,)], [(1,), (2,)], changes), True)


class RenamingsTest(unittest.TestCase):
    def test_points_43_and_44(self):
        self.assertEqual(turned_by(2, ((1,), (1, 2, -1))), (1,))
        images = ((1,), (2,), (2, 3, -2))
        self.assertIsNone(turned_by(3, images))
        self.assertEqual([ring_of(3, image) for image in images], [(1,), (2,), (3,)])
        self.assertEqual(renamed(3, images, (1, 3)), (1, 2, 3, -2))
        self.assertEqual(move_renaming(2, (1, (-2, 2))), ((1,), (-1, 2, 1)))
        self.assertEqual(move_renaming(2, (1, (2,))), ((1,), (2, 1)))
        self.assertEqual(move_renaming(2, (-1, (-2,))), ((1,), (1, 2)))
        self.assertEqual(back_move(2, (1, (2,))), (-1, (2,)))

    def test_points_51_54_and_55(self):
        self.assertEqual(neighbours(2, [(1, 1, 2)]), {(-2, 1): 1, (-1, 1): 1, (-1, 2): 1})
        self.assertEqual(neighbours(2, [(2,)]), {(-2, 2): 1})
        self.assertEqual(pieces(2, [(1, 2)]), [(-2, 1), (-1, 2)])
        self.assertEqual((loose_letters(2, [(1, 2)]), cut_letters(2, [(1, 2)])), ([-2, -1, 1, 2], []))
        self.assertEqual(ring_of(2, renamed(2, move_renaming(2, (1, (-2,))), (1, 2))), (2,))
        self.assertEqual((pieces(2, [(1, 1, 2)]), cut_letters(2, [(1, 1, 2)])), ([(-2, -1, 1, 2)], [-1, 1]))
        self.assertEqual(ring_of(2, renamed(2, move_renaming(2, (1, (-2,))), (1, 1, 2))), (1, 2))
        self.assertEqual((len(pieces(2, [(1, 2, -1, -2)])), cut_letters(2, [(1, 2, -1, -2)])), (1, []))
        self.assertEqual(loose_letters(2, [(1, 2, -1, -2)]), [])
        self.assertEqual(cut_down(2, [(1, 2, -1, -2)])[0], ())
        self.assertEqual(groups(3, [(1, 2, -1, -2), (), (3, 3)]), [((0,), 2), ((2,), 1)])
        self.assertEqual(groups(3, [(1, 2), (2, 3)]), [((0,), 1), ((1,), 1)])
        self.assertEqual(groups(2, [(1, 1), (1, 2, 1, 2), (1, 2)]), [((0,), 1), ((1, 2), 1)])

    def test_points_62_to_66(self):
        self.assertEqual(level(2, [(1, 2, -1, -2)]), [((-2, -1, 2, 1),), ((-2, 1, 2, -1),)])
        self.assertEqual(level(2, [(1,)]), [((-2,),), ((-1,),), ((1,),), ((2,),)])
        self.assertEqual(alike(2, [(1,), (2,)], [(1,), (1,)])[0], "unlike")
        self.assertEqual([slope(2, 1), slope(-1, 0), slope(3, 2), slope(2, -1)],
                         [(1, 1, 2), (-1,), (1, 1, 2, 1, 2), (-2, 1, 1)])
        self.assertEqual(needed(2, [(1, 2, -1, -2)]), 2)
        self.assertEqual(parted(3, [(1, 2, -1, -2), (3, 3)])[1], ((1, 2), (3,)))
        images = ((1,), (2,), (-1, -2, -1, 3))
        self.assertEqual(rings_of(3, [renamed(3, images, (1, 2, 1, 3))]), ((3,),))
        self.assertEqual(parted(3, [(1, 2, 1, 3)])[1], ((1,), (2,), (3,)))


class MeansTest(unittest.TestCase):
    def test_points_72_to_74(self):
        self.assertEqual(web_of(2, [(1, 2, -1, -2)]), COMMUTATOR)
        self.assertEqual(pictures(2, [(1, 2, -1, -2)]), [
            WHOLE, (2, 2, ((0, 1, 0), (0, 2, 1), (1, 1, 1))), (2, 2, ((0, 1, 1), (0, 2, 0), (1, 2, 1))),
            (2, 2, ((0, 1, 1), (0, 2, 1), (1, 1, 0), (1, 2, 0))), (2, 3, ((0, 1, 1), (0, 2, 1), (1, 1, 2), (1, 2, 2))),
            (2, 3, ((0, 1, 1), (0, 2, 2), (1, 2, 0), (2, 1, 0))), COMMUTATOR])
        self.assertEqual(joined(COMMUTATOR, 0, 1), (2, 2, ((0, 1, 0), (0, 2, 1), (1, 1, 1))))
        self.assertEqual(pictures(2, []), [(2, 1, ())])
        self.assertIsNone(seen(2, [(1, 2, -1, -2)], HOUSE, 0))
        self.assertEqual(seen(2, [(2,)], HOUSE, 0), (2, 1, ((0, 2, 0),)))
        self.assertEqual(seen(2, [()], HOUSE, 2), (2, 1, ()))
        self.assertEqual(joint(web_of(1, [(1,) * 4]), web_of(1, [(1,) * 6])), web_of(1, [(1, 1)]))

    def test_points_84_to_87(self):
        self.assertEqual(mean_fraction(2, []), ((0, 1), (1,), 1))
        self.assertEqual(mean_fraction(2, [(1, 2, -1, -2)]), ((0, 1), (-1, 1), 4))
        self.assertEqual(mean_fraction(2, [(1, 1)]), ((2,), (1,), 2))
        self.assertEqual(mean_fraction(2, [(1,), (2,)]), ((1,), (0, 1), 1))
        for places in range(2, 9):
            self.assertEqual(worth(mean(2, [(1, 2, -1, -2)], places)), fractions.Fraction(places, places - 1))
            self.assertEqual(worth(own_share(COMMUTATOR, places)), 1 + fractions.Fraction(1, places * (places - 1)))
            self.assertEqual(worth(own_share(WHOLE, places)), fractions.Fraction(1, places))
        self.assertEqual([mean_product(2, (1,), (1, 1), places) for places in range(3, 7)], [3] * 4)
        self.assertEqual([mean_product(2, (1, 1), (1, 1), places) for places in range(4, 8)], [7] * 4)

    def test_point_95(self):
        self.assertEqual((depth(2, (1, 2, -1, -2)), leading(2, (1, 2, -1, -2)), least_unlike(2, (1, 2, -1, -2))),
                         ((2, [WHOLE]), (1, 1), (2, 2)))
        self.assertEqual((depth(2, (1, 1)), least_unlike(2, (1, 1))), ((1, [web_of(2, [(1,)])]), (2, 2)))
        self.assertIsNone(depth(2, (1, 1, 2)))
        self.assertEqual(renamed(2, ((1,), (-1, -1, 2)), (1, 1, 2)), (2,))


class WebsTest(unittest.TestCase):
    def test_point_105(self):
        square = web_of(2, [(1, 1)])
        self.assertEqual(len(joinings(square, web_of(2, [(1,)]))), 1)
        self.assertIs(is_bound(square, web_of(2, [(1,)])), True)
        self.assertEqual(hull(square, WHOLE), web_of(2, [(1,)]))
        self.assertEqual(len(joinings(COMMUTATOR, WHOLE)), 2)
        self.assertIs(free_in(COMMUTATOR, WHOLE), False)
        self.assertIs(is_bound(COMMUTATOR, WHOLE), True)
        self.assertEqual(bound_webs(COMMUTATOR), [WHOLE, COMMUTATOR])
        letter = web_of(2, [(1, 2, -1)])
        self.assertEqual(len(joinings(letter, WHOLE)), 1)
        self.assertIs(free_in(letter, WHOLE), True)
        self.assertEqual(len(lengthened(letter, WHOLE)), 1)
        self.assertEqual(web_of(2, [(1, 2, -1), (1,)]), WHOLE)

    def test_points_111_113_and_114(self):
        one, other = web_of(2, [(1, 1), (2,)]), web_of(2, [(1, 1), (2, 2)])
        self.assertEqual(one, (2, 2, ((0, 1, 1), (0, 2, 0), (1, 1, 0))))
        self.assertEqual(other, (2, 3, ((0, 1, 1), (0, 2, 2), (1, 1, 0), (2, 2, 0))))
        self.assertEqual((common(one, other), common_pieces(one, other)), (other, [(0, 0, 2), (0, 1, 1)]))
        self.assertEqual(turners(web_of(2, [(1, 1)])), web_of(2, [(1,)]))
        steps = {steps_over(turners(web), web) for web in full_webs(2, 3)}
        self.assertEqual((steps, {stays_turned(web) for web in full_webs(2, 3)}), ({1, 3}, {True, False}))
        web = web_of(2, [(1, 1), (2, 2), (1, 2, 2, -1)])
        self.assertEqual((web[1], rank(web)), (4, 3))
        wide = web_of(2, [(1,), (2, 2)])
        self.assertEqual((widest(web), rank(wide), steps_over(wide, web)), (wide, 2, 2))
        rows = step_rows(wide, web)
        self.assertEqual((rows[0], len(rows)), ((), 2))

    def test_point_122(self):
        self.assertEqual(renaming_text(2, ((1, -2), (2,))), "a=aB b=b")


if __name__ == "__main__":
    unittest.main()

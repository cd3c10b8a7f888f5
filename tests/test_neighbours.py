"""Points 51 to 55: neighbours in rings, pieces, cut letters, loose letters, cut moves and groups."""

import itertools
import random
import unittest

from meankept.errors import BadDeeds, BadMove, BadRows
from meankept.moves import moves
from meankept.neighbours import (cut_down, cut_letters, cut_move, groups, length_behind, loose_letters, neighbours,
                                 pieces)
from meankept.shortest import as_letter, needed, parted
from tests.helpers import (NOT_DEEDS, back, check_first_wrong, drawn_renaming, few_lists, letters, move_of,
                           naive_moves, naive_rings, not_lists, not_moves, plain_rows, size, some_lists, tell, turned)

ROWS = [(1, 1, 2), (2, 1, -2)]
SIX = [(1, 2), (), (2, 2), (1, -2), (1,), (2, 1, 1)]


def naive_ties(rows):
    """Return the list of all ties of rows, each a pair, as often as it is there."""
    found = []
    for ring in naive_rings(rows):
        for at in range(len(ring)):
            found.append(tuple(sorted([ring[at - 1], -ring[at]])))
    return found


def lots_that_hang(lot, ties):
    """Return the ascending list of the greatest lots of letters that hang together by ties."""
    lot = set(lot)
    found = []
    while lot:
        piece = {min(lot)}
        grown = True
        while grown:
            more = {x for tie in ties if set(tie) & piece for x in tie} & lot
            grown = not more <= piece
            piece |= more
        found.append(tuple(sorted(piece)))
        lot -= piece
    return sorted(found)


def naive_parts(deeds, letter, ties):
    """Return the parts at a letter."""
    piece = next(lot for lot in lots_that_hang(letters(deeds), ties) if letter in lot)
    return lots_that_hang([x for x in piece if x != letter], [tie for tie in ties if letter not in tie])


def naive_cut_letters(deeds, ties):
    """Return the ascending list of the letters with two parts or more."""
    return [x for x in letters(deeds) if len(naive_parts(deeds, x, ties)) >= 2]


def naive_loose_letters(deeds, ties):
    """Return the ascending list of the loose letters."""
    found = []
    for x in letters(deeds):
        piece = next(lot for lot in lots_that_hang(letters(deeds), ties) if x in lot)
        if any(x in tie for tie in ties) and -x not in piece:
            found.append(x)
    return found


def naive_cut_moves(deeds, ties):
    """Return the list of all cut moves, as they are told."""
    found = []
    for x in sorted(set(naive_cut_letters(deeds, ties)) | set(naive_loose_letters(deeds, ties))):
        parts = [part for part in naive_parts(deeds, x, ties) if -x not in part]
        for many in range(1, len(parts) + 1):
            for some in itertools.combinations(parts, many):
                found.append((x, tuple(sorted(sum(some, ())))))
    return found


def lists_for_neighbours(many, seed):
    """Return so many pairs (deeds, rows) of no rows to six rows, short ones and long ones."""
    return (few_lists(many, 60, seed) + some_lists(many, 3, seed)
            + [(deeds, (rows * 2)[:6]) for deeds, rows in few_lists(many // 4, 20, seed + "twice")])


class WrongValuesTest(unittest.TestCase):
    def test_rows(self):
        for function in (neighbours, pieces, cut_letters, loose_letters, cut_move, cut_down, groups):
            for rows in ([], ROWS, SIX):
                check_first_wrong(self, function, {"deeds": 2, "rows": rows},
                                  {"deeds": (BadDeeds, NOT_DEEDS), "rows": (BadRows, not_lists(2))})

    def test_length_behind(self):
        check_first_wrong(self, length_behind, {"deeds": 2, "rows": ROWS, "move": (1, (2,))},
                          {"deeds": (BadDeeds, NOT_DEEDS), "rows": (BadRows, not_lists(2)),
                           "move": (BadMove, not_moves())})

    def test_one_deed_has_no_moves(self):
        for move in moves(2):
            with self.assertRaises(BadMove):
                length_behind(1, [(1,)], move)


class NeighboursTest(unittest.TestCase):
    def test_examples_by_hand(self):
        found = neighbours(2, [(1, 1, 2)])
        self.assertEqual(found, {(-2, 1): 1, (-1, 1): 1, (-1, 2): 1})
        self.assertEqual(list(found), [(-2, 1), (-1, 1), (-1, 2)])
        self.assertEqual(neighbours(2, [(2,)]), {(-2, 2): 1})

    def test_some(self):
        for rows, right in (([], {}), ([()], {}), ([()] * 6, {}), ([(1, -1)], {}), ([(1,)], {(-1, 1): 1}),
                            ([(-1,)], {(-1, 1): 1}), ([(1, 1)], {(-1, 1): 2}), ([(2, 1, -2)], {(-1, 1): 1}),
                            ([(1,), (1,), (-1,)], {(-1, 1): 3}), ([(1, 2)], {(-2, 1): 1, (-1, 2): 1}),
                            ([(1, -2)], {(-2, -1): 1, (1, 2): 1}),
                            ([(1, 2, -1, -2)], {(-2, -1): 1, (-2, 1): 1, (-1, 2): 1, (1, 2): 1})):
            self.assertEqual(neighbours(2, rows), right, rows)
            self.assertEqual(neighbours(2, tuple(rows)), right, rows)

    def test_drawn(self):
        source = random.Random("neighbours")
        for deeds, rows in lists_for_neighbours(150, "neighbours"):
            ties = naive_ties(rows)
            found = neighbours(deeds, rows)
            self.assertEqual(found, {tie: ties.count(tie) for tie in ties})
            self.assertEqual(list(found), sorted(found))
            self.assertTrue(all(x < y for x, y in found))
            self.assertEqual(sum(found.values()), size(naive_rings(rows)))
            for x in letters(deeds):
                stands = sum(ring.count(x) + ring.count(-x) for ring in naive_rings(rows))
                self.assertEqual(sum(many for tie, many in found.items() if x in tie), stands)
            by = source.choice(plain_rows(deeds, 2))
            other = [turned(source.choice([row, back(row)]), by) for row in rows]
            if all(len(row) <= 200 for row in other):
                self.assertEqual(neighbours(deeds, other), found)

    def test_returned_dicts_are_new(self):
        neighbours(2, ROWS)[(1, 2)] = 7
        neighbours(2, []).update({1: 2})
        self.assertEqual(neighbours(2, ROWS), {(-2, 1): 1, (-1, 1): 2, (-1, 2): 1})
        self.assertEqual(neighbours(2, []), {})

    def test_length_behind(self):
        for deeds, rows in lists_for_neighbours(60, "length"):
            ties = naive_ties(rows)
            for move in naive_moves(deeds)[::7 if deeds == 4 else 1]:
                x, lot = move
                found = length_behind(deeds, rows, move)
                self.assertEqual(found, size(naive_rings([tell(move_of(deeds, move), row) for row in rows])))
                inside = (x,) + lot
                told = (size(naive_rings(rows)) - sum(x in tie for tie in ties)
                        + sum((one in inside) != (other in inside) for one, other in ties))
                self.assertEqual(found, told)

    def test_long_rows(self):
        row = (1, 2, 2, -1, 2, 1) * 33
        self.assertEqual(sum(neighbours(2, [row] * 6).values()), 6 * 198)
        for move in moves(2):
            right = size(naive_rings([tell(move_of(2, move), row)])) * 6
            self.assertEqual(length_behind(2, [row] * 6, move), right)


class PiecesTest(unittest.TestCase):
    def test_examples_by_hand(self):
        self.assertEqual(pieces(2, [(1, 2)]), [(-2, 1), (-1, 2)])
        self.assertEqual(loose_letters(2, [(1, 2)]), [-2, -1, 1, 2])
        self.assertEqual(cut_letters(2, [(1, 2)]), [])
        self.assertEqual(pieces(2, [(1, 1, 2)]), [(-2, -1, 1, 2)])
        self.assertEqual(cut_letters(2, [(1, 1, 2)]), [-1, 1])
        self.assertEqual(loose_letters(2, [(1, 1, 2)]), [])
        self.assertEqual(naive_parts(2, 1, naive_ties([(1, 1, 2)])), [(-2,), (-1, 2)])
        self.assertEqual(pieces(2, [(1, 2, -1, -2)]), [(-2, -1, 1, 2)])
        self.assertEqual(cut_letters(2, [(1, 2, -1, -2)]), [])
        self.assertEqual(loose_letters(2, [(1, 2, -1, -2)]), [])

    def test_without_ties_each_letter_is_a_piece(self):
        for deeds in range(1, 5):
            for rows in ([], [()], [(1, -1)] * 6):
                self.assertEqual(pieces(deeds, rows), [(x,) for x in letters(deeds)])
                self.assertEqual(cut_letters(deeds, rows), [])
                self.assertEqual(loose_letters(deeds, rows), [])
                self.assertIsNone(cut_move(deeds, rows))

    def test_one_deed(self):
        for row in ((1,), (-1,), (1,) * 200):
            self.assertEqual(pieces(1, [row]), [(-1, 1)])
            self.assertEqual(cut_letters(1, [row]), [])
            self.assertEqual(loose_letters(1, [row]), [])
            self.assertIsNone(cut_move(1, [row]))
            self.assertEqual(cut_down(1, [row, ()]), ((), (naive_rings([row])[0], ())))

    def test_drawn(self):
        cut = loose = 0
        for deeds, rows in lists_for_neighbours(200, "pieces"):
            ties = naive_ties(rows)
            self.assertEqual(pieces(deeds, rows), lots_that_hang(letters(deeds), ties))
            self.assertEqual(sorted(sum(pieces(deeds, rows), ())), letters(deeds))
            self.assertEqual(cut_letters(deeds, rows), naive_cut_letters(deeds, ties))
            self.assertEqual(loose_letters(deeds, rows), naive_loose_letters(deeds, ties))
            cut += cut_letters(deeds, rows) != []
            loose += loose_letters(deeds, rows) != []
        self.assertGreater(min(cut, loose), 40)


class CutMoveTest(unittest.TestCase):
    def test_examples_by_hand(self):
        self.assertIn((1, (-2,)), naive_cut_moves(2, naive_ties([(1, 2)])))
        self.assertEqual(naive_rings([tell(move_of(2, (1, (-2,))), (1, 2))]), ((2,),))
        self.assertEqual([move for move in naive_cut_moves(2, naive_ties([(1, 1, 2)])) if move[0] == 1], [(1, (-2,))])
        self.assertEqual(naive_rings([tell(move_of(2, (1, (-2,))), (1, 1, 2))]), ((1, 2),))
        for row in ((1, 2), (1, 1, 2)):
            self.assertIn(cut_move(2, [row]), naive_cut_moves(2, naive_ties([row])))
        self.assertIsNone(cut_move(2, [(1, 2, -1, -2)]))
        self.assertEqual(cut_down(2, [(1, 2, -1, -2)]), ((), ((-2, 1, 2, -1),)))

    def test_drawn(self):
        found = 0
        for deeds, rows in lists_for_neighbours(200, "cut moves"):
            ties = naive_ties(rows)
            move = cut_move(deeds, rows)
            right = naive_cut_moves(deeds, ties)
            if move is None:
                self.assertEqual(right, [])
                self.assertEqual(naive_cut_letters(deeds, ties) + naive_loose_letters(deeds, ties), [])
            else:
                found += 1
                self.assertIn(move, right)
                less = sum(move[0] in tie and (set(tie) - {move[0]}) <= set(move[1]) for tie in ties)
                self.assertGreater(less, 0)
                behind = size(naive_rings([tell(move_of(deeds, move), row) for row in rows]))
                self.assertEqual(behind, size(naive_rings(rows)) - less)
        self.assertGreater(found, 150)

    def test_cut_down(self):
        for deeds, rows in lists_for_neighbours(120, "cut down"):
            chain, rings = cut_down(deeds, rows)
            self.assertIs(type(cut_down(deeds, rows)), tuple)
            self.assertIs(type(chain), tuple)
            self.assertIs(type(rings), tuple)
            now = naive_rings(rows)
            for move in chain:
                self.assertIn(move, naive_cut_moves(deeds, naive_ties(now)))
                now = naive_rings([tell(move_of(deeds, move), ring) for ring in now])
            self.assertEqual(rings, now)
            self.assertEqual(naive_cut_moves(deeds, naive_ties(now)), [])

    def test_no_rows_and_six(self):
        for deeds in range(1, 5):
            self.assertEqual(cut_down(deeds, []), ((), ()))
            self.assertEqual(cut_down(deeds, [()] * 6), ((), ((),) * 6))
            self.assertEqual(groups(deeds, []), [])
            self.assertEqual(groups(deeds, [()] * 6), [])
        self.assertEqual(len(cut_down(2, SIX)[1]), 6)
        self.assertEqual(cut_down(2, SIX)[1][1], ())

    def test_long_rows(self):
        rows = [(1,) * many + (2,) for many in (195, 196, 197, 198, 199)]
        chain, rings = cut_down(2, rows[:1])
        self.assertEqual(size(rings), 1)
        self.assertGreaterEqual(len(chain), 1)
        chain, rings = cut_down(2, rows)
        self.assertIsNone(cut_move(2, rings))


class GroupsTest(unittest.TestCase):
    def test_examples_by_hand(self):
        self.assertEqual(groups(3, [(1, 2, -1, -2), (), (3, 3)]), [((0,), 2), ((2,), 1)])
        self.assertEqual(groups(3, [(1, 2), (2, 3)]), [((0,), 1), ((1,), 1)])
        self.assertEqual(groups(2, [(1, 1), (1, 2, 1, 2), (1, 2)]), [((0,), 1), ((1, 2), 1)])

    def check_facts(self, deeds, rows):
        """Check what groups have to do with the shortest lists."""
        found = groups(deeds, rows)
        self.assertEqual(found, sorted(found))
        numbers = sorted(sum([lot for lot, _ in found], ()))
        self.assertEqual(numbers, [at for at, ring in enumerate(naive_rings(rows)) if ring != ()])
        last = cut_down(deeds, rows)[1]
        ties = naive_ties(last)
        told = []
        for piece in lots_that_hang(letters(deeds), ties):
            if any(set(tie) <= set(piece) for tie in ties):
                told.append((tuple(at for at, ring in enumerate(last) if set(ring) & set(piece)), len(piece) // 2))
        self.assertEqual(found, sorted(told))
        if 1 <= len(rows) <= 4:
            many = sum(many for _, many in found)
            self.assertEqual(many, needed(deeds, rows))
            lots = parted(deeds, rows)
            self.assertEqual(1 if lots is None else len(lots[1]), max(len(found) + deeds - many, 1))
        for at, row in enumerate(rows):
            is_one = size(cut_down(deeds, [row])[1]) == 1
            self.assertEqual(as_letter(deeds, row) is not None, is_one)
        return found

    def test_drawn(self):
        source = random.Random("groups")
        for deeds, rows in lists_for_neighbours(80, "groups"):
            found = self.check_facts(deeds, rows)
            images = drawn_renaming(source, deeds, 12)
            other = [tell(images, row) for row in rows]
            other = [turned(source.choice([row, back(row)]), source.choice(plain_rows(deeds, 2))) for row in other]
            if all(len(row) <= 200 for row in other):
                self.assertEqual(groups(deeds, other), found)

    def test_rows_in_deeds_alone(self):
        source = random.Random("alone")
        for _ in range(150):
            one = [tuple(source.choice([1, -1, 2, -2]) for _ in range(source.randint(0, 6))) for _ in range(2)]
            other = [tuple(source.choice([1, -1, 2, -2]) for _ in range(source.randint(0, 6))) for _ in range(3)]
            moved = [tuple(x + 2 if x > 0 else x - 2 for x in row) for row in other]
            right = groups(2, one) + [(tuple(at + 2 for at in lot), many) for lot, many in groups(2, other)]
            images = drawn_renaming(source, 4, 8)
            self.assertEqual(groups(4, one + moved), sorted(right))
            hidden = [tell(images, row) for row in one + moved]
            self.assertEqual(groups(4, hidden), sorted(right))
            self.check_facts(4, hidden)

    def test_returned_lists_are_new(self):
        for function in (groups, pieces, cut_letters, loose_letters):
            for rows in (ROWS, [(1, 2)], [(1, 1, 2)]):
                right = function(2, rows)
                function(2, rows).append("more")
                self.assertEqual(function(2, rows), right)


if __name__ == "__main__":
    unittest.main()

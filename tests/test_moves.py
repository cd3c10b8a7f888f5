"""Points 44 and 45: moves, their renamings, chains of moves, and the chain of each renaming."""

import random
import unittest

from meankept.errors import BadDeeds, BadMove, BadRenaming, TooMany
from meankept.moves import back_move, chain_of, chained, is_move, move_renaming, moves
from meankept.renamings import back_renaming, is_renaming, renamed
from tests.helpers import (NOT_DEEDS, any_values, check_first_wrong, exchanges, in_turn, letters, move_of, naive_moves,
                           naive_ring, not_chains, not_moves, not_renamings, same, size, some_renamings, some_rows,
                           tell, turned)


class WrongValuesTest(unittest.TestCase):
    def test_deeds(self):
        for deeds in NOT_DEEDS:
            with self.assertRaises(BadDeeds):
                moves(deeds)
            for value in any_values() + [(1, (2,))]:
                with self.assertRaises(BadDeeds):
                    is_move(deeds, value)

    def test_moves(self):
        for function in (move_renaming, back_move):
            check_first_wrong(self, function, {"deeds": 2, "move": (1, (-2, 2))},
                              {"deeds": (BadDeeds, NOT_DEEDS), "move": (BadMove, not_moves())})

    def test_chained(self):
        for chain in ([], [(1, (2,)), (-2, (-1, 1))]):
            check_first_wrong(self, chained, {"deeds": 2, "chain": chain},
                              {"deeds": (BadDeeds, NOT_DEEDS), "chain": (BadMove, not_chains())})

    def test_chain_of(self):
        check_first_wrong(self, chain_of, {"deeds": 2, "renaming": ((1, 2), (2,))},
                          {"deeds": (BadDeeds, NOT_DEEDS), "renaming": (BadRenaming, not_renamings())})

    def test_bad_moves_ahead_of_too_many(self):
        much = [(1, (2,)), (2, (1,))] * 20
        with self.assertRaises(TooMany):
            chained(2, much)
        for wrong in not_moves():
            with self.assertRaises(BadMove):
                chained(2, much + [wrong])


class MovesTest(unittest.TestCase):
    def test_wrong_ones(self):
        for value in not_moves():
            self.assertIs(is_move(2, value), False, value)

    def test_all_moves(self):
        for deeds in range(1, 5):
            found = moves(deeds)
            self.assertIs(type(found), list)
            self.assertEqual(found, naive_moves(deeds))
            self.assertEqual(len(found), 2 * deeds * (2 ** (2 * deeds - 2) - 1))
            for move in found:
                self.assertIs(is_move(deeds, move), True)
                self.assertIs(is_move(1, move), False)

    def test_only_these_are_moves(self):
        source = random.Random("moves")
        right = set(moves(3))
        for _ in range(5000):
            value = (source.randint(-4, 4), tuple(source.randint(-4, 4) for _ in range(source.randint(0, 4))))
            self.assertIs(is_move(3, value), value in right, value)
            value = (value[0], tuple(sorted(set(value[1]))))
            self.assertIs(is_move(3, value), value in right, value)

    def test_returned_lists_are_new(self):
        moves(2).append("more")
        self.assertEqual(len(moves(2)), 12)

    def test_examples_by_hand(self):
        self.assertEqual(move_renaming(2, (1, (-2, 2))), ((1,), (-1, 2, 1)))
        self.assertEqual(move_renaming(2, (1, (2,))), ((1,), (2, 1)))
        self.assertEqual(move_renaming(2, (-1, (-2,))), ((1,), (1, 2)))

    def test_renamings_and_back_moves(self):
        for deeds in range(2, 5):
            for move in moves(deeds):
                images = move_renaming(deeds, move)
                self.assertEqual(images, move_of(deeds, move))
                self.assertIs(is_renaming(deeds, images), True)
                other = back_move(deeds, move)
                self.assertEqual(other, (-move[0], move[1]))
                self.assertEqual(in_turn(images, move_renaming(deeds, other)), same(deeds))
                self.assertEqual(in_turn(move_renaming(deeds, other), images), same(deeds))
        for move in moves(3):
            self.assertEqual(back_renaming(3, move_renaming(3, move)), move_renaming(3, back_move(3, move)))

    def test_the_rest_does_the_same_to_rings(self):
        for deeds in (2, 3, 4):
            rows = some_rows(deeds, 4, 8, f"rest {deeds}")
            for letter, lot in moves(deeds):
                rest = tuple(x for x in letters(deeds) if x not in (letter, -letter) + lot)
                images = move_renaming(deeds, (letter, lot))
                for row in rows:
                    found = renamed(deeds, images, row)
                    if rest == ():
                        self.assertEqual(found, turned(row, (-letter,)))
                        self.assertEqual(naive_ring(found), naive_ring(row))
                    else:
                        other = renamed(deeds, move_renaming(deeds, (-letter, rest)), row)
                        self.assertEqual(other, turned(found, (letter,)))
                        self.assertEqual(naive_ring(other), naive_ring(found))


class ChainedTest(unittest.TestCase):
    def test_no_move(self):
        for deeds in range(1, 5):
            for chain in ([], ()):
                self.assertEqual(chained(deeds, chain), same(deeds))

    def test_drawn_chains(self):
        source = random.Random("chained")
        many = 0
        for _ in range(300):
            deeds = source.randint(2, 4)
            chain = [source.choice(moves(deeds)) for _ in range(source.randint(1, 30))]
            steps = [same(deeds)]
            for move in chain:
                if size(steps[-1]) <= 2000:
                    steps.append(in_turn(steps[-1], move_of(deeds, move)))
            if size(steps[-1]) > 2000:
                with self.assertRaises(TooMany) as caught:
                    chained(deeds, chain)
                self.assertEqual(caught.exception.most, 2000)
                many += 1
            else:
                self.assertEqual(chained(deeds, chain), steps[-1])
                self.assertEqual(chained(deeds, tuple(chain)), steps[-1])
        self.assertGreater(many, 10)

    def test_2000_letters_and_more(self):
        for many, fits in ((1997, True), (1998, True), (1999, False), (2000, False)):
            chain = [(-1, (-2,))] * many
            if fits:
                self.assertEqual(chained(2, chain), ((1,), (1,) * many + (2,)))
            else:
                with self.assertRaises(TooMany) as caught:
                    chained(2, chain)
                self.assertEqual(caught.exception.most, 2000)

    def test_too_many_on_the_way(self):
        back = (1, (-2,))
        self.assertEqual(chained(2, [(-1, (-2,))] * 990 + [back] * 990), same(2))
        # All moves together give few letters, but some of the first ones give many.
        way = [(1, (2,)), (2, (1,))] * 9
        there = way + [back_move(2, move) for move in way[::-1]]
        with self.assertRaises(TooMany):
            chained(2, there)
        fewer = way[:12] + [back_move(2, move) for move in way[:12][::-1]]
        self.assertEqual(chained(2, fewer), same(2))

    def test_just_2000_on_the_way(self):
        long = [(-1, (-3,))] * 995 + [(-1, (-2,))] * 1002
        for more, fits in (([], True), ([(1, (-2,))], True), ([(-1, (-2,)), (1, (-2,))], False)):
            if fits:
                self.assertEqual(size(chained(3, long + more)), 2000 - len(more))
            else:
                with self.assertRaises(TooMany):
                    chained(3, long + more)


class ChainOfTest(unittest.TestCase):
    def check(self, deeds, images):
        """Check the chain and the exchange of a renaming."""
        found = chain_of(deeds, images)
        self.assertIs(type(found), tuple)
        chain, exchange = found
        self.assertIs(type(chain), tuple)
        self.assertIn(exchange, exchanges(deeds))
        sizes = [deeds]
        now = exchange
        for move in chain[::-1]:
            self.assertIs(is_move(deeds, move), True)
            now = in_turn(move_of(deeds, move), now)
            sizes.append(size(now))
        self.assertEqual(now, images)
        self.assertEqual(sizes, sorted(sizes))
        if size(images) <= 100:
            self.assertEqual(in_turn(chained(deeds, chain), exchange), images)

    def test_exchanges(self):
        for deeds in range(1, 5):
            for images in exchanges(deeds):
                self.check(deeds, images)
                self.assertEqual(chain_of(deeds, images), ((), images))

    def test_moves(self):
        for deeds in (2, 3, 4):
            for move in moves(deeds):
                self.check(deeds, move_of(deeds, move))

    def test_drawn(self):
        for most in (10, 40, 300):
            for deeds, images in some_renamings(150, most, f"chain of {most}"):
                self.check(deeds, images)

    def test_turned_ones(self):
        for deeds in (2, 3, 4):
            for by in some_rows(deeds, 20, 12, f"turned {deeds}"):
                self.check(deeds, tuple(turned((deed,), by) for deed in range(1, deeds + 1)))

    def test_many_letters(self):
        for images in (((1,), (1,) * 900 + (2,) + (-1,) * 900), ((1,), (2,) + (-1,) * 1200),
                       ((1,), (-1,) * 300 + (-2,) + (1,) * 600)):
            self.check(2, images)
        images = ((1,), (1,) * 20 + (2,), tell([(1,) * 20 + (2,), (3,)], (1,) * 40 + (2,)))
        self.check(3, images)

    def test_rows_of_the_same_two_letters(self):
        # The images grow like the numbers of Fibonacci.
        images = ((1,), (2,))
        for at in range(12):
            images = in_turn(images, move_of(2, [(1, (2,)), (2, (1,)), (-1, (2,)), (-2, (-1,))][at % 4]))
            self.check(2, images)


if __name__ == "__main__":
    unittest.main()

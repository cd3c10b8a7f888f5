"""Points 3 to 6 as far as they speak of what is there, and the interface of the modules that are there."""

import ast
import copy
import importlib
import inspect
import itertools
import os
import unittest

import meankept
from meankept.between import fewest, free_in, joinings, lengthened, within
from meankept.common import across, common, common_pieces, piece, piece_of
from meankept.depths import depth, keeps_alone, leading, least_unlike
from meankept.errors import BadDeeds, BadNumber, BadRow, KeepError
from meankept.fractions import mean_fraction
from meankept.full import filled, full_webs, house_web, is_full, rest
from meankept.houses import is_house, kept, least_house, led, total_kept
from meankept.hulls import bound_webs, hull, inside, is_bound, outside
from meankept.journals import packed, replayed
from meankept.levels import alike, form, level
from meankept.lists import are_changes, changed, changes_between, freed
from meankept.made import made_of, nothing_of
from meankept.means import mean, mean_square, share
from meankept.moves import back_move, chain_of, chained, is_move, move_renaming, moves
from meankept.neighbours import (cut_down, cut_letters, cut_move, groups, length_behind, loose_letters, neighbours,
                                 pieces)
from meankept.numbers import is_number, number
from meankept.pictures import joined, joint, laid, lies_over, part, pictures, pictures_of, seen
from meankept.renamings import back_renaming, behind, is_renaming, renamed, turned_by
from meankept.rings import meet_power, ring_of, root, turner
from meankept.rows import beside, is_row, plain, sums, times_row, undone
from meankept.shares import mean_product, own_share
from meankept.shortest import (as_letter, done, is_chain, is_shortest, needed, parted, rings_of, shortened, slope,
                               total)
from meankept.texts import read_renaming, read_row, renaming_text, row_text
from meankept.turned import stays_turned, turners, turning_row, web_turned
from meankept.webs import (free_list, is_over, is_web, made_power, makes, rank, read, spelled, told_row, ways,
                           web_of)
from meankept.widest import near_turned, step_rows, steps_over, widest
from tests.helpers import any_values, nested

FOLDER = os.path.dirname(meankept.__file__)

INTERFACE = {
    "numbers": ["is_number(value)", "number(top, bottom)"],
    "rows": ["is_row(deeds, value)", "plain(deeds, row)", "undone(deeds, row)", "beside(deeds, one, other)",
             "times_row(deeds, row, many)", "sums(deeds, row)"],
    "rings": ["ring_of(deeds, row)", "turner(deeds, one, other)", "root(deeds, row)",
              "meet_power(deeds, one, other)"],
    "houses": ["is_house(deeds, value)", "led(deeds, house, row, place)", "kept(deeds, house, rows)",
               "total_kept(deeds, rows, places)", "least_house(deeds, row)"],
    "webs": ["is_web(value)", "web_of(deeds, rows)", "read(web, row, place)", "makes(web, row)", "rank(web)",
             "ways(web)", "free_list(web)", "spelled(web, row)", "told_row(web, spelling)",
             "is_over(one, other)", "made_power(web, row)"],
    "full": ["is_full(web)", "filled(web)", "house_web(deeds, house, place)", "rest(web, row)",
             "full_webs(deeds, places)"],
    "lists": ["changed(deeds, rows, change)", "freed(deeds, rows)", "changes_between(deeds, one, other)",
              "are_changes(deeds, one, other, value)"],
    "made": ["made_of(deeds, rows, row)", "nothing_of(deeds, rows)"],
    "renamings": ["is_renaming(deeds, value)", "renamed(deeds, renaming, row)", "behind(deeds, first, second)",
                  "back_renaming(deeds, renaming)", "turned_by(deeds, renaming)"],
    "moves": ["is_move(deeds, value)", "moves(deeds)", "move_renaming(deeds, move)", "back_move(deeds, move)",
              "chained(deeds, chain)", "chain_of(deeds, renaming)"],
    "neighbours": ["neighbours(deeds, rows)", "length_behind(deeds, rows, move)", "pieces(deeds, rows)",
                   "cut_letters(deeds, rows)", "loose_letters(deeds, rows)", "cut_move(deeds, rows)",
                   "cut_down(deeds, rows)", "groups(deeds, rows)"],
    "shortest": ["rings_of(deeds, rows)", "total(deeds, rows)", "done(deeds, rows, moves)",
                 "is_shortest(deeds, rows)", "is_chain(deeds, rows, thing)", "shortened(deeds, rows)",
                 "as_letter(deeds, row)", "slope(first, second)", "needed(deeds, rows)", "parted(deeds, rows)"],
    "levels": ["level(deeds, rows)", "form(deeds, rows)", "alike(deeds, one, other)"],
    "pictures": ["laid(inner, outer)", "part(inner, outer)", "lies_over(one, other)", "joined(web, place, mate)",
                 "pictures_of(web)", "pictures(deeds, rows)", "seen(deeds, rows, house, place)",
                 "joint(one, other)"],
    "means": ["share(web, places)", "mean(deeds, rows, places)", "mean_square(deeds, row, places)"],
    "fractions": ["mean_fraction(deeds, rows)"],
    "between": ["within(inner, outer)", "joinings(inner, outer)", "fewest(web)", "free_in(inner, outer)",
                "lengthened(inner, outer)"],
    "hulls": ["is_bound(inner, outer)", "hull(inner, outer)", "bound_webs(web)", "inside(inner, outer)",
              "outside(web, outer)"],
    "shares": ["own_share(web, places)", "mean_product(deeds, one, other, places)"],
    "depths": ["depth(deeds, row)", "leading(deeds, row)", "least_unlike(deeds, row)", "keeps_alone(deeds, rows)"],
    "common": ["piece(one, other, place, mate)", "common(one, other)", "common_pieces(one, other)",
               "across(one, other, row, goal)", "piece_of(one, other, row)"],
    "turned": ["web_turned(web, row)", "turning_row(one, other)", "turners(web)", "stays_turned(web)"],
    "widest": ["steps_over(outer, inner)", "step_rows(outer, inner)", "widest(web)", "near_turned(web, row)"],
    "texts": ["row_text(deeds, row)", "read_row(deeds, text)", "renaming_text(deeds, renaming)",
              "read_renaming(deeds, text)"],
    "journals": ["replayed(deeds, acts)", "packed(deeds, acts)"],
}
CLASSES = {
    "live": {"LiveRows(deeds)": [
        "keep(self, name, row)", "drop(self, name)", "turn(self, name, by)", "rename(self, renaming)",
        "move(self, thing)", "undo(self)", "redo(self)", "journal(self)", "names(self)", "row(self, name)",
        "renaming(self)", "origin(self, name)", "kept_total(self, some, places)", "kept_mean(self, some, places)",
        "web_rank(self, some)", "can_make(self, some, name)", "same_ring(self, one, other)", "is_letter(self, name)"]},
    "desk": {"Desk()": ["say(self, line)"]},
}

HOUSE = ((1, 2, 0), (0, 2, 1))
COMMUTATOR = (2, 4, ((0, 1, 1), (0, 2, 2), (1, 2, 3), (2, 1, 3)))
WHOLE = (2, 1, ((0, 1, 0), (0, 2, 0)))
PAIR = (2, 2, ((0, 1, 1), (0, 2, 0), (1, 1, 0), (1, 2, 1)))
NIELSEN = ((1, 2, 1), (1, 2))

CALLS = [
    (is_number, ((3, 2),)), (number, (6, 4)), (is_row, (2, (1, -1))), (plain, (2, (1, -1, 2))),
    (undone, (2, (1, 2))), (beside, (2, (1, 2), (-2, 1))), (times_row, (2, (1, 2, -1), -3)),
    (sums, (2, (1, 2, 2))), (ring_of, (2, (2, 1, 1, -2))), (turner, (2, (1, 2), (2, 1))),
    (turner, (2, (1,), (-1,))), (root, (2, (2, 1, 1, -2))), (meet_power, (2, (1, 1), (-1, -1, -1))),
    (meet_power, (2, (1, 1), (2,))), (is_house, (2, HOUSE)), (led, (2, HOUSE, (1, 2), 0)),
    (kept, (2, HOUSE, [(2,), (1, -1)])), (total_kept, (2, [(1, 2, -1, -2)], 3)), (least_house, (2, (1, 1))),
    (is_web, (PAIR,)), (web_of, (2, [(1, 1), (1, 2, -1)])), (read, (PAIR, (1, 2), 1)), (makes, (PAIR, (1, 1))),
    (rank, (PAIR,)), (ways, (PAIR,)), (free_list, (PAIR,)), (spelled, (PAIR, (1, 2, 1))),
    (told_row, (PAIR, (1, -2, 3))), (is_over, (PAIR, PAIR)), (made_power, (PAIR, (1, 2))), (is_full, (PAIR,)),
    (filled, (PAIR,)), (house_web, (2, HOUSE, 1)), (rest, (PAIR, (1, 2))), (full_webs, (2, 3)),
    (changed, (2, [(1, 2), (2,)], ("put", 0, 1))), (freed, (2, [(1, 2), (2,)])),
    (changes_between, (2, [(1, 2), (2,)], [(1,), (2,)])), (made_of, (2, [(1, 1), (2,)], (1,))),
    (made_of, (2, [(1, 1, 2), (1, 2)], (2,))), (nothing_of, (2, [(1,), (1, 1)])),
    (are_changes, (2, [(1, 2), (2,)], [(1,), (2,)], [("undo", 1), ("put", 0, 1), ("undo", 1)])),
    (is_renaming, (2, NIELSEN)), (renamed, (2, NIELSEN, (1, 2))), (behind, (2, NIELSEN, NIELSEN)),
    (back_renaming, (2, NIELSEN)), (turned_by, (2, ((1,), (1, 2, -1)))), (is_move, (2, (1, (2,)))), (moves, (2,)),
    (move_renaming, (2, (1, (-2, 2)))), (back_move, (2, (1, (-2, 2)))), (chained, (2, [(1, (2,)), (-2, (1,))])),
    (chain_of, (2, NIELSEN)), (neighbours, (2, [(1, 1, 2), (2,)])), (length_behind, (2, [(1, 2)], (1, (2,)))),
    (pieces, (2, [(1, 2)])), (cut_letters, (2, [(1, 1, 2)])), (loose_letters, (2, [(1, 2)])),
    (cut_move, (2, [(1, 2)])), (cut_down, (2, [(1, 1, 2)])), (groups, (2, [(1, 2), (1, 1, 2)])),
    (rings_of, (2, [(2, 1)])), (total, (2, [(2, 1)])), (done, (2, [(1, 2)], [(1, (-2,))])),
    (is_shortest, (2, [(2, 1)])), (is_chain, (2, [(1, 2)], [(1, (-2,))])), (shortened, (2, [(1, 2)])),
    (as_letter, (2, (1, 2))), (slope, (3, -2)), (needed, (2, [(1, 2)])), (parted, (3, [(1, 2, 1, 3)])),
    (level, (2, [(1, 2)])), (form, (2, [(1, 2)])), (alike, (2, [(1, 2)], [(2,)])),
    (alike, (2, [(1, 1), (2,)], [(2,), (1,)])),
    (laid, (COMMUTATOR, WHOLE)), (part, (COMMUTATOR, WHOLE)), (lies_over, (COMMUTATOR, WHOLE)),
    (joined, (COMMUTATOR, 0, 1)), (pictures_of, (COMMUTATOR,)), (pictures, (2, [(1, 2, -1, -2)])),
    (seen, (2, [(2,)], HOUSE, 0)), (joint, (COMMUTATOR, PAIR)), (share, (COMMUTATOR, 5)),
    (mean, (2, [(1, 2, -1, -2)], 5)), (mean_square, (2, (1, 1), 5)), (mean_fraction, (2, [(1, 2, -1, -2)])),
    (within, (COMMUTATOR, WHOLE)), (joinings, (COMMUTATOR, WHOLE)), (fewest, (COMMUTATOR,)),
    (free_in, (COMMUTATOR, WHOLE)), (lengthened, ((2, 1, ()), PAIR)),
    (is_bound, (COMMUTATOR, WHOLE)), (hull, (COMMUTATOR, WHOLE)), (bound_webs, (COMMUTATOR,)),
    (inside, (COMMUTATOR, WHOLE)), (outside, (COMMUTATOR, WHOLE)), (own_share, (COMMUTATOR, 5)),
    (mean_product, (2, (1, 1), (1, 2, -1), 5)), (depth, (2, (1, 2, -1, -2))), (leading, (2, (1, 2, -1, -2))),
    (least_unlike, (2, (1, 2, -1, -2))), (keeps_alone, (2, [(1, 2)])), (piece, (COMMUTATOR, PAIR, 3, 1)),
    (common, (COMMUTATOR, PAIR)), (common_pieces, (COMMUTATOR, PAIR)), (across, (WHOLE, PAIR, (1,), (2, 2))),
    (piece_of, (PAIR, COMMUTATOR, (1, 1))), (web_turned, (COMMUTATOR, (1, 1))), (turning_row, (COMMUTATOR, COMMUTATOR)),
    (turners, (PAIR,)), (stays_turned, (PAIR,)), (steps_over, (WHOLE, PAIR)), (step_rows, (WHOLE, PAIR)),
    (widest, (PAIR,)), (near_turned, (PAIR, (1, 2))), (row_text, (2, (1, -2))), (read_row, (2, "aBbb")),
    (renaming_text, (2, NIELSEN)), (read_renaming, (2, "a=aB b=b")), (packed, (2, [("keep", "a", (1, 2))])),
]
KINDS = {is_number: bool, is_row: bool, is_house: bool, led: int, kept: list, total_kept: int, is_web: bool,
         read: int, makes: bool, rank: int, ways: list, free_list: list, is_over: bool, made_power: int,
         is_full: bool, full_webs: list, changed: list, freed: list, changes_between: list, are_changes: bool,
         is_renaming: bool, is_move: bool, moves: list, neighbours: dict, length_behind: int, pieces: list,
         cut_letters: list, loose_letters: list, groups: list, total: int, is_shortest: bool, is_chain: bool,
         needed: int, level: list, lies_over: bool, pictures_of: list, pictures: list, mean_square: int,
         within: list, joinings: list, fewest: dict, free_in: bool, lengthened: list, is_bound: bool,
         bound_webs: list, keeps_alone: bool, common_pieces: list, stays_turned: bool, steps_over: int,
         step_rows: list, near_turned: bool, mean_product: int, row_text: str, renaming_text: str, packed: list}


class InterfaceTest(unittest.TestCase):
    def test_names_and_arguments(self):
        for name, told in INTERFACE.items():
            module = importlib.import_module("meankept." + name)
            for line in told:
                function = getattr(module, line.split("(")[0])
                found = function.__name__ + str(inspect.signature(function))
                self.assertEqual(found, line)

    def test_each_is_defined_in_its_own_file(self):
        for name, told in INTERFACE.items():
            with open(os.path.join(FOLDER, name + ".py"), encoding="utf-8") as file:
                tree = ast.parse(file.read())
            defined = [node.name for node in tree.body if isinstance(node, ast.FunctionDef)]
            for line in told:
                self.assertIn(line.split("(")[0], defined)

    def test_classes(self):
        for name, classes in CLASSES.items():
            module = importlib.import_module("meankept." + name)
            with open(os.path.join(FOLDER, name + ".py"), encoding="utf-8") as file:
                tree = ast.parse(file.read())
            for line, methods in classes.items():
                word = line.split("(")[0]
                found = getattr(module, word)
                self.assertEqual(word + str(inspect.signature(found)), line)
                (node,) = [node for node in tree.body if isinstance(node, ast.ClassDef) and node.name == word]
                defined = [item.name for item in node.body if isinstance(item, ast.FunctionDef)]
                for method in methods:
                    own = vars(found)[method.split("(")[0]]
                    self.assertEqual(own.__name__ + str(inspect.signature(own)), method)
                    self.assertIn(own.__name__, defined)

    def test_the_package_has_its_init(self):
        self.assertTrue(os.path.exists(os.path.join(FOLDER, "__init__.py")))


class CallsTest(unittest.TestCase):
    def test_by_position_by_name_and_mixed(self):
        for function, given in CALLS:
            names = list(inspect.signature(function).parameters)
            right = function(*given)
            for many in range(len(given) + 1):
                rest = dict(zip(names[many:], given[many:]))
                self.assertEqual(function(*given[:many], **rest), right)
                backward = dict(reversed(list(rest.items())))
                self.assertEqual(function(*given[:many], **backward), right)

    def test_equal_arguments_give_equal_results(self):
        for function, given in CALLS:
            self.assertEqual(function(*given), function(*copy.deepcopy(given)))
            self.assertEqual(repr(function(*given)), repr(function(*given)))

    def test_what_is_passed_in_is_never_changed(self):
        for value in any_values()[:-1] + [[1, -1], [(1, -1)], {(1,): [2]}]:
            elder = copy.deepcopy(value)
            is_row(2, value)
            is_number(value)
            for call in (lambda: plain(2, value), lambda: number(value, 1)):
                try:
                    call()
                except KeepError:
                    pass
            self.assertEqual(value, elder)

    def test_only_what_is_told_is_returned(self):
        for function, given in CALLS:
            self.assertIs(type(function(*given)), KINDS.get(function, tuple))

    def test_all_calls_are_there(self):
        names = {line.split("(")[0] for told in INTERFACE.values() for line in told}
        # What replayed returns is a live house, equal to no other one.
        self.assertEqual({function.__name__ for function, _ in CALLS} | {replayed.__name__}, names)

    def test_all_modules_are_there(self):
        for name in list(INTERFACE) + list(CLASSES) + ["errors"]:
            self.assertTrue(os.path.isfile(os.path.join(FOLDER, name + ".py")), name)

    def test_what_is_passed_in_stays_and_what_is_returned_is_new(self):
        for function, given in CALLS:
            elder = copy.deepcopy(given)
            found = function(*given)
            right = copy.deepcopy(found)
            if isinstance(found, list):
                found.append("more")
            if isinstance(found, dict):
                found["more"] = 1
            self.assertEqual(function(*given), right)
            self.assertEqual(given, elder)

    def test_lists_of_rows_may_be_tuples(self):
        for function, given in CALLS:
            for names in itertools.product([list, tuple], repeat=len(given)):
                other = [kind(value) if isinstance(value, list) else value for kind, value in zip(names, given)]
                self.assertEqual(function(*other), function(*given))


class ValuesTest(unittest.TestCase):
    def test_tuples_are_needed_at_every_depth(self):
        for value in ([1, 2], [], "12", {1: 2}, ([1, 2],)):
            self.assertIs(is_row(2, value), False)
            self.assertIs(is_number(value), False)
            for function in (plain, undone, sums, ring_of, root):
                with self.assertRaises(BadRow):
                    function(2, value)
            for function in (beside, turner, meet_power):
                with self.assertRaises(BadRow):
                    function(2, value, (1,))
                with self.assertRaises(BadRow):
                    function(2, (1,), value)

    def test_truths_are_no_wholes(self):
        for truth in (True, False):
            self.assertIs(is_number(truth), False)
            self.assertIs(is_row(1, (truth,)), False)
            for call in (lambda: number(truth, 1), lambda: number(1, truth),
                         lambda: times_row(1, (1,), truth)):
                with self.assertRaises(BadNumber):
                    call()
            for function in (plain, undone, sums, ring_of, root):
                with self.assertRaises(BadDeeds):
                    function(truth, ())
                with self.assertRaises(BadRow):
                    function(1, (1, truth))

    def test_deep_values(self):
        for depth in (1, 2, 39, 40):
            self.assertIs(is_row(2, nested(depth)), False)
            self.assertIs(is_number(nested(depth)), False)
            with self.assertRaises(BadRow):
                plain(2, nested(depth))
            with self.assertRaises(BadDeeds):
                plain(nested(depth), nested(depth))

    def test_wholes_of_many_digits(self):
        most = 10 ** 30 - 1
        for deeds in (most, -most):
            with self.assertRaises(BadDeeds):
                is_row(deeds, ())
        self.assertIs(is_row(4, (most,)), False)
        self.assertIs(is_row(4, (-most,)), False)
        with self.assertRaises(BadNumber):
            times_row(4, (1,), most)
        self.assertEqual(number(most, -most), -1)
        self.assertIs(is_number(most), True)

    def test_long_lists_and_strings(self):
        for value in ([1] * 2000, (1,) * 2000, "a" * 20000):
            self.assertIs(is_row(2, value), False)
            self.assertIs(is_number(value), False)


if __name__ == "__main__":
    unittest.main()

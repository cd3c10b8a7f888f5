"""Points 123 and 124: a live house of rows, its acts, what is taken back and done again, and its questions."""

import copy
import random
import unittest

from meankept.errors import (BadDeeds, BadMove, BadName, BadPlaces, BadRenaming, BadRow, KeepError, NoName, TooMany)
from meankept.houses import total_kept
from meankept.live import LiveRows
from meankept.means import mean
from meankept.renamings import back_renaming
from meankept.shortest import as_letter
from meankept.webs import makes, rank, web_of
from tests.helpers import (NOT_DEEDS, NOT_PLACES, Model, any_values, check_first_wrong, drawn_act,
                           drawn_renaming, move_of, naive_moves, naive_ring, not_moves, not_names, not_renamings,
                           not_rows, plain_rows, same, size, tell, turned)

NAMES = ["a", "b", "abcdefghijkl", "x", "row", "z"]
NO_NAMES = ["q", "nobody", "aa"]


def house_of(deeds, rows):
    """Return a live house with rows, a dict from names to them."""
    live = LiveRows(deeds)
    for name, row in rows.items():
        live.keep(name, row)
    return live


def told(live):
    """Return all that a live house tells of its rows and its acts."""
    names = live.names()
    return (names, [live.row(name) for name in names], live.renaming(), live.journal())


def bad_lists():
    """Return values that are no lists of at most 6 names."""
    wrong = [value for value in any_values() if value != []]
    return wrong + [0, "a", "ab", {"a": 1}, ["a"] * 7, ("b",) * 7, ["a", ""], ["a", None], ["A"], [["a"]], ["a", 1],
                    ["q", ""]]


def error_of(call):
    """Return the name of the error that a call raises, and the most that it tells; None if it raises none."""
    try:
        call()
    except KeepError as error:
        return (type(error).__name__, getattr(error, "most", None))
    return None


class FormTest(unittest.TestCase):
    def test_at_first(self):
        check_first_wrong(self, LiveRows, {"deeds": 2}, {"deeds": (BadDeeds, NOT_DEEDS)})
        for deeds in range(1, 5):
            live = LiveRows(deeds)
            self.assertEqual(live.deeds, deeds)
            self.assertEqual(told(live), ([], [], same(deeds), []))
            self.assertIs(live.undo(), False)
            self.assertIs(live.redo(), False)

    def test_equal_to_nothing_else_and_not_gone_over(self):
        live = LiveRows(2)
        for other in (LiveRows(2), None, 2, [], {}, ()):
            self.assertNotEqual(live, other)
        with self.assertRaises(TypeError):
            list(live)


class WrongValuesTest(unittest.TestCase):
    def setUp(self):
        self.live = house_of(2, {"a": (1, 2), "b": (2,)})

    def test_acts(self):
        wrong_name = (BadName, not_names())
        check_first_wrong(self, self.live.keep, {"name": "a", "row": (1,)},
                          {"name": wrong_name, "row": (BadRow, not_rows(2))})
        check_first_wrong(self, self.live.turn, {"name": "a", "by": ()},
                          {"name": wrong_name, "by": (BadRow, not_rows(2))})
        check_first_wrong(self, self.live.turn, {"name": "a", "by": ()},
                          {"name": (NoName, NO_NAMES), "by": (BadRow, not_rows(2))})
        check_first_wrong(self, self.live.rename, {"renaming": ((1,), (2, 1))},
                          {"renaming": (BadRenaming, not_renamings())})
        check_first_wrong(self, self.live.move, {"thing": (1, (2,))}, {"thing": (BadMove, not_moves())})
        for error, names in ((BadName, not_names()), (NoName, NO_NAMES)):
            for name in names:
                for call in (lambda: self.live.drop(name), lambda: self.live.drop(name=name)):
                    with self.assertRaises(error) as caught:
                        call()
                    self.assertIs(type(caught.exception), error)

    def test_questions_of_names(self):
        for wrong in ((BadName, not_names()), (NoName, NO_NAMES)):
            for function in (self.live.row, self.live.origin, self.live.is_letter):
                check_first_wrong(self, function, {"name": "a"}, {"name": wrong})
            for other in ((BadName, not_names()), (NoName, NO_NAMES)):
                check_first_wrong(self, self.live.same_ring, {"one": "a", "other": "b"}, {"one": wrong, "other": other})

    def test_questions_of_lists(self):
        no_rows = [["q"], ["a", "b", "q"], ("nobody",), ["a", "q", "aa"]]
        for wrong in ((BadName, bad_lists()), (NoName, no_rows)):
            for function in (self.live.kept_total, self.live.kept_mean):
                check_first_wrong(self, function, {"some": ["a", "b"], "places": 3},
                                  {"some": wrong, "places": (BadPlaces, NOT_PLACES)})
            check_first_wrong(self, self.live.web_rank, {"some": ["a", "b"]}, {"some": wrong})
            for name in ((BadName, not_names()), (NoName, NO_NAMES)):
                check_first_wrong(self, self.live.can_make, {"some": ["a", "b"], "name": "b"},
                                  {"some": wrong, "name": name})

    def test_too_many_in_questions(self):
        for places, most in ((1000000, 20000), (6, 20000)):
            with self.assertRaises(TooMany) as caught:
                self.live.kept_total(["a"], places)
            self.assertEqual(caught.exception.most, most)
        self.live.keep("much", (1, 1, 2) * 60)
        with self.assertRaises(TooMany) as caught:
            self.live.kept_mean(["a", "much"], 3)
        self.assertEqual(caught.exception.most, 2000)
        with self.assertRaises(BadPlaces):
            self.live.kept_mean(["much"], 0)

    def test_names(self):
        for name in ("a", "z", "abcdefghijkl", "m" * 12):
            self.live.keep(name, (1,))
            self.assertEqual(self.live.row(name), (1,))


class ActsTest(unittest.TestCase):
    def test_acts_return_none(self):
        live = LiveRows(2)
        for found in (live.keep("a", (1, 1, -1)), live.turn("a", (2, 1)), live.rename(((1, 2), (2,))),
                      live.move((1, (2,))), live.keep("a", ()), live.drop("a")):
            self.assertIsNone(found)
        self.assertEqual(live.journal(), [("keep", "a", (1,)), ("turn", "a", (2, 1)), ("rename", ((1, 2), (2,))),
                                          ("move", (1, (2,))), ("keep", "a", ()), ("drop", "a")])

    def test_rows_count_as_plain(self):
        live = house_of(2, {"a": (1, -1) * 100, "b": (2, 1, -1)})
        live.turn("b", (2, 2, -2))
        self.assertEqual((live.row("a"), live.row("b")), ((), (2,)))
        self.assertEqual(live.journal(), [("keep", "a", ()), ("keep", "b", (2,)), ("turn", "b", (2,))])

    def test_twenty_names(self):
        names = ["x" * (many // 5 + 1) + "abcde"[many % 5] for many in range(20)]
        live = house_of(1, {name: (1,) for name in names})
        elder = told(live)
        with self.assertRaises(TooMany) as caught:
            live.keep("more", (1,))
        self.assertEqual(caught.exception.most, 20)
        with self.assertRaises(BadRow):
            live.keep("more", (2,))
        self.assertEqual(told(live), elder)
        live.keep(names[7], (1, 1))
        self.assertEqual(live.row(names[7]), (1, 1))
        self.assertEqual(live.names(), sorted(names))
        live.drop(names[3])
        live.keep("more", (-1,))
        self.assertEqual(live.names(), sorted(names[:3] + names[4:] + ["more"]))

    def test_turned_rows_of_200_letters_and_more(self):
        for many, fits in ((198, True), (199, False), (200, False)):
            live = house_of(2, {"a": (1,) * many})
            elder = told(live)
            if fits:
                live.turn("a", (2,))
                self.assertEqual(live.row("a"), (2,) + (1,) * 198 + (-2,))
            else:
                with self.assertRaises(TooMany) as caught:
                    live.turn("a", (2,))
                self.assertEqual(caught.exception.most, 200)
                self.assertEqual(told(live), elder)
                live.turn("a", (1,) * 200)
        live = house_of(2, {"a": (2,)})
        with self.assertRaises(TooMany):
            live.turn("a", (1,) * 100)
        live.turn("a", (1,) * 99)
        self.assertEqual(len(live.row("a")), 199)

    def test_renamed_rows_of_200_letters_and_more(self):
        for many, fits in ((100, True), (101, False)):
            for act in (lambda live: live.rename(((1, 2), (2,))), lambda live: live.move((2, (1,)))):
                live = house_of(2, {"b": (2,), "a": (1,) * many})
                elder = told(live)
                if fits:
                    act(live)
                    self.assertEqual(live.row("a"), (1, 2) * 100)
                    self.assertEqual(live.renaming(), ((1, 2), (2,)))
                else:
                    with self.assertRaises(TooMany) as caught:
                        act(live)
                    self.assertEqual(caught.exception.most, 200)
                    self.assertEqual(told(live), elder)
                    live.drop("a")
                    act(live)

    def test_renamings_so_far_of_2000_letters_and_more(self):
        for more, fits in ((0, True), (1, False)):
            live = LiveRows(2)
            live.rename(((1,) + (2,) * 998, (2,)))
            elder = told(live)
            # The images (1, 2, ..) and (2,) have 1000 letters; then 1 becomes so many letters more.
            renaming = ((1,) + (2,) * (1000 + more), (2,))
            if fits:
                live.rename(renaming)
                self.assertEqual(size(live.renaming()), 2000)
                self.assertEqual(len(live.journal()), 2)
            else:
                with self.assertRaises(TooMany) as caught:
                    live.rename(renaming)
                self.assertEqual(caught.exception.most, 2000)
                self.assertEqual(told(live), elder)
        # Ahead of a kept row that gets too long.
        live = house_of(2, {"a": (1,) * 200})
        live.drop("a")
        live.rename(((1,) + (2,) * 998, (2,)))
        live.keep("a", (1,) * 200)
        with self.assertRaises(TooMany) as caught:
            live.move((2, (1,)))
        self.assertEqual(caught.exception.most, 200)
        with self.assertRaises(TooMany) as caught:
            live.rename(((1,) + (2,) * 1001, (2,)))
        self.assertEqual(caught.exception.most, 2000)

    def test_undo_and_redo(self):
        live = LiveRows(2)
        live.keep("a", (1,))
        live.keep("a", (2,))
        self.assertEqual([live.undo(), live.row("a"), live.undo(), live.names(), live.undo()],
                         [True, (1,), True, [], False])
        self.assertEqual([live.redo(), live.row("a"), live.redo(), live.row("a"), live.redo()],
                         [True, (1,), True, (2,), False])
        live.undo()
        for act in (lambda: live.keep("", (1,)), lambda: live.drop("b"), lambda: live.turn("a", (3,)),
                    lambda: live.rename(((1,), (1,))), lambda: live.move((1, ())), lambda: live.keep("a", None)):
            with self.assertRaises(KeepError):
                act()
        # What an act that raises an error leaves can be done again, ..
        self.assertIs(live.redo(), True)
        self.assertEqual(live.row("a"), (2,))
        live.undo()
        live.turn("a", (2,))
        # .. what an act that raises none lets go of, cannot.
        self.assertIs(live.redo(), False)
        self.assertEqual(live.journal(), [("keep", "a", (1,)), ("turn", "a", (2,))])

    def test_returned_lists_are_new(self):
        live = house_of(2, {"a": (1,), "b": (2,)})
        elder = copy.deepcopy(told(live))
        live.journal().append("more")
        live.names().clear()
        live.journal().clear()
        self.assertEqual(told(live), elder)
        some = ["a", "b", "a"]
        live.web_rank(some)
        self.assertEqual(some, ["a", "b", "a"])
        self.assertEqual(live.web_rank(tuple(some)), live.web_rank(some))


class DrawnTest(unittest.TestCase):
    def check_state(self, live, model):
        """Check all that a live house tells of its rows against a model."""
        rows, images = model.state()
        self.assertEqual(live.journal(), model.acts)
        self.assertEqual(live.names(), sorted(rows))
        self.assertEqual(live.renaming(), images)
        for name, row in rows.items():
            self.assertEqual(live.row(name), row)

    def check_questions(self, source, live, model):
        """Check some questions against what is worked out afresh."""
        rows, images = model.state()
        deeds = model.deeds
        some = [source.choice(sorted(rows)) for _ in range(source.randint(0, 3))] if rows else []
        lot = [rows[name] for name in some]
        self.assertEqual(live.web_rank(some), rank(web_of(deeds, lot)))
        self.assertEqual(live.kept_total(some, 2), total_kept(deeds, lot, 2))
        if web_of(deeds, lot)[1] <= 7:
            self.assertEqual(live.kept_mean(tuple(some), 5), mean(deeds, lot, 5))
        try:
            back = back_renaming(deeds, images)
        except TooMany:
            back = None
        for name, row in rows.items():
            self.assertIs(live.can_make(some, name), makes(web_of(deeds, lot), row))
            self.assertIs(live.same_ring(name, (some + [name])[0]), naive_ring(row) == naive_ring(rows[(some + [name])[0]]))
            if len(row) <= 40:
                self.assertIs(live.is_letter(name), as_letter(deeds, row) is not None)
            if back is not None:
                self.assertEqual(live.origin(name), tell(back, row))
                self.assertEqual(tell(images, live.origin(name)), row)
            else:
                with self.assertRaises(TooMany) as caught:
                    live.origin(name)
                self.assertEqual(caught.exception.most, 2000)

    def test_led_by_drawn_acts(self):
        seen = set()
        for seed in range(24):
            source = random.Random(f"live {seed}")
            deeds = seed % 4 + 1
            live, model = LiveRows(deeds), Model(deeds)
            names = NAMES if seed % 3 else NAMES + ["n" + letter for letter in "abcdefghijklmnopqrs"]
            for name in names[6:]:
                live.keep(name, (1,))
                model.do(("keep", name, (1,)))
            for _ in range(70):
                draw = source.random()
                if draw < 0.15:
                    self.assertIs(live.undo(), model.undo())
                elif draw < 0.25:
                    self.assertIs(live.redo(), model.redo())
                else:
                    act = drawn_act(source, deeds, names)
                    wanted = model.error_of(act)
                    found = error_of(lambda: getattr(live, act[0])(*act[1:]))
                    self.assertEqual(found, wanted, act)
                    seen.add(wanted)
                    if wanted is None:
                        model.do(act)
                self.check_state(live, model)
                if source.random() < 0.2:
                    self.check_questions(source, live, model)
        self.assertGreaterEqual(seen, {None, ("BadName", None), ("NoName", None), ("BadRow", None), ("BadMove", None),
                                       ("BadRenaming", None), ("TooMany", 20), ("TooMany", 200)})

    def test_what_renamings_leave(self):
        for seed in range(16):
            source = random.Random(f"renamings leave {seed}")
            deeds = source.randint(1, 3)
            live = LiveRows(deeds)
            for name in ("a", "b", "c"):
                live.keep(name, source.choice(plain_rows(deeds, 3)))
            lists = [[], ["a"], ["a", "b"], ["c", "a", "c"], ["a", "b", "c"]]

            def answers():
                """Return all that a renaming leaves."""
                return [[live.origin(name) for name in live.names()], [live.is_letter(name) for name in live.names()],
                        [(live.kept_total(some, 2), live.kept_mean(some, 3), live.web_rank(some)) for some in lists],
                        [live.can_make(some, name) for some in lists for name in live.names()],
                        [live.same_ring(one, other) for one in live.names() for other in live.names()]]

            right = answers()
            done = 0
            while done < 4:
                elder = told(live)
                try:
                    if source.random() < 0.5 and deeds > 1:
                        live.move(source.choice(naive_moves(deeds)))
                    else:
                        live.rename(drawn_renaming(source, deeds, 6))
                except TooMany:
                    self.assertEqual(told(live), elder)
                    break
                if all(len(live.row(name)) <= 5 for name in live.names()):
                    self.assertEqual(answers(), right)
                else:
                    self.assertEqual([live.origin(name) for name in live.names()], right[0])
                    live.undo()
                    self.assertEqual(answers(), right)
                done += 1
            live.undo()
            live.redo()
            self.assertEqual([live.origin(name) for name in live.names()], right[0])

    def test_origins_change_by_acts_on_their_name_alone(self):
        live = house_of(2, {"a": (1, 2), "b": (2, 2, 1)})
        live.rename(((1, 2), (2,)))
        elder = live.origin("b")
        live.keep("a", (1, 1))
        live.turn("a", (2,))
        live.move((1, (-2, 2)))
        self.assertEqual(live.origin("b"), elder)
        images = live.renaming()
        for name in ("a", "b"):
            self.assertEqual(tell(images, live.origin(name)), live.row(name))
        live.turn("b", (1,))
        self.assertNotEqual(live.origin("b"), elder)
        live.undo()
        self.assertEqual(live.origin("b"), elder)
        live.redo()
        live.drop("a")
        self.assertEqual(live.origin("b"), tell(back_renaming(2, live.renaming()), live.row("b")))

    def test_origins_of_many_letters(self):
        live = LiveRows(2)
        live.rename(((1,) + (2,) * 60, (2,)))
        live.keep("b", (1,) * 100)
        self.assertEqual(live.origin("b"), ((1,) + (-2,) * 60) * 100)
        self.assertEqual(len(live.origin("b")), 6100)

    def test_back_renamings_of_2000_letters_and_more(self):
        for many, fits in ((11, True), (12, False)):
            images = ((1,), (2,) + (1,) * many, (3,) + (2,) * many, (4,) + (3,) * many)
            live = LiveRows(4)
            live.keep("a", (1,))
            live.rename(images)
            if fits:
                back = back_renaming(4, images)
                self.assertEqual(size(back), 1610)
                live.keep("b", (4, 3))
                self.assertEqual(live.origin("b"), tell(back, (4, 3)))
            else:
                with self.assertRaises(TooMany) as caught:
                    live.origin("a")
                self.assertEqual(caught.exception.most, 2000)
                with self.assertRaises(NoName):
                    live.origin("b")

    def test_moves_are_renamings(self):
        for move in naive_moves(2) + naive_moves(3)[::5]:
            deeds = 2 if move in naive_moves(2) else 3
            live, other = [house_of(deeds, {"a": (1, 2, -1), "b": (2, 1)}) for _ in range(2)]
            live.move(move)
            other.rename(move_of(deeds, move))
            self.assertEqual(told(live)[:3], told(other)[:3])
            self.assertEqual(live.journal()[-1], ("move", move))
            self.assertEqual(live.row("a"), tell(move_of(deeds, move), (1, 2, -1)))


class QuestionsTest(unittest.TestCase):
    def test_some(self):
        live = house_of(2, {"comm": (1, 2, -1, -2), "a": (1,), "b": (2,), "aa": (1, 1), "back": (2, 1, -2, -1)})
        self.assertEqual(live.kept_total(["comm"], 3), 54)
        self.assertEqual(live.kept_mean(["comm"], 5), (5, 4))
        self.assertEqual(live.kept_mean([], 5), 5)
        self.assertEqual(live.kept_total([], 2), 8)
        self.assertEqual(live.web_rank(["a", "aa"]), 1)
        self.assertEqual(live.web_rank([]), 0)
        self.assertIs(live.can_make(["a", "b"], "comm"), True)
        self.assertIs(live.can_make(["aa", "b"], "a"), False)
        self.assertIs(live.can_make([], "a"), False)
        self.assertIs(live.is_letter("comm"), False)
        self.assertIs(live.is_letter("a"), True)
        self.assertIs(live.is_letter("aa"), False)
        self.assertIs(live.same_ring("comm", "back"), False)
        live.turn("comm", (2, 2, 1))
        self.assertEqual(live.row("comm"), turned((1, 2, -1, -2), (2, 2, 1)))
        live.keep("turned", (2, -1, -2, 1))
        self.assertIs(live.same_ring("comm", "turned"), True)
        self.assertIs(live.same_ring("comm", "comm"), True)
        live.keep("none", ())
        self.assertIs(live.can_make([], "none"), True)
        self.assertIs(live.is_letter("none"), False)
        self.assertEqual(live.web_rank(["a"] * 6), 1)

    def test_kinds(self):
        live = house_of(2, {"a": (1,), "b": (2, 2)})
        for found, kind in ((live.names(), list), (live.row("a"), tuple), (live.renaming(), tuple),
                            (live.origin("b"), tuple), (live.kept_total(["a"], 2), int), (live.web_rank(["a"]), int),
                            (live.can_make(["a"], "b"), bool), (live.same_ring("a", "b"), bool),
                            (live.is_letter("a"), bool), (live.journal(), list), (live.undo(), bool),
                            (live.redo(), bool)):
            self.assertIs(type(found), kind)


if __name__ == "__main__":
    unittest.main()

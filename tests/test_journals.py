"""Point 125: journals that are replayed, and short lists of acts that lead to the same."""

import copy
import random
import unittest

from meankept.errors import BadDeeds, BadJournal
from meankept.journals import packed, replayed
from meankept.live import LiveRows
from tests.helpers import (NOT_DEEDS, Model, afresh, any_values, check_first_wrong, drawn_act, not_moves, not_names,
                           not_renamings, not_rows, same)

ACTS = [("keep", "a", (1, 2, -2, 1)), ("keep", "b", (2,)), ("turn", "a", (2, 2, -2)), ("rename", ((1, 2), (2,))),
        ("move", (1, (2,))), ("drop", "b"), ("keep", "b", ())]
NO_LISTS = [value for value in any_values() if not isinstance(value, list)] + [
    0, 1, "drop", {("drop", "a"): 1}, [("drop", "a")] * 501, (("keep", "a", ()),) * 501]


def not_acts():
    """Return values that are no acts as journals have them, whatever is kept."""
    found = any_values() + [0, 1, (), ("keep",), ("keep", "a"), ("keep", "a", (1,), ()), ["keep", "a", (1,)], ("drop",),
                            ("drop", "a", ()), ("turn", "a"), ("rename",), ("rename", (1,), (2,)), ("move",),
                            ("move", 1, (2,)), ("undo",), ("redo",), ("Keep", "a", (1,)), ("keep ", "a", (1,)),
                            (None, "a", (1,)), (("keep",), "a", (1,)), (["keep"], "a", ()), ({}, "a"), "keep",
                            ("names",), ("row", "a"), ("deeds", 2), (True, "a"), (3, "a", (1,))]
    found += [("keep", name, (1,)) for name in not_names()] + [("keep", "a", row) for row in not_rows(2)]
    found += [("turn", "a", row) for row in not_rows(2)] + [("rename", images) for images in not_renamings()]
    return found + [("move", thing) for thing in not_moves()] + [("drop", name) for name in not_names() + ["q"]]


def told(live):
    """Return all that a live house tells of its rows."""
    names = live.names()
    return (live.deeds, names, [live.row(name) for name in names], live.renaming())


class WrongValuesTest(unittest.TestCase):
    def test_parameters(self):
        for function in (replayed, packed):
            check_first_wrong(self, function, {"deeds": 2, "acts": ACTS},
                              {"deeds": (BadDeeds, NOT_DEEDS), "acts": (BadJournal, NO_LISTS + [[("drop", "a")]])})

    def check_at(self, deeds, acts, at):
        """Check that acts fit no further than to the item at."""
        for function in (replayed, packed):
            with self.assertRaises(BadJournal) as caught:
                function(deeds, acts)
            self.assertEqual(caught.exception.at, at)
            self.assertIsNone(caught.exception.__cause__)

    def test_no_lists(self):
        for value in NO_LISTS:
            self.check_at(2, value, -1)

    def test_items_that_do_not_fit(self):
        for value in [item for item in any_values() if isinstance(item, list) and item]:
            self.check_at(2, value, 0)
        for value in not_acts():
            self.check_at(2, [value], 0)
            self.check_at(2, ACTS + [value, "more"], len(ACTS))
            self.check_at(2, tuple(ACTS[:3]) + (value,), 3)

    def test_acts_that_raise(self):
        names = ["n" + letter for letter in "abcdefghijklmnopqrst"]
        much = [("keep", name, (1,)) for name in names]
        self.check_at(2, much + [("keep", "more", (1,))], 20)
        self.check_at(2, [("keep", "a", (1,) * 200), ("turn", "a", (2,))], 1)
        self.check_at(2, [("keep", "a", (1,) * 200), ("move", (2, (1,)))], 1)
        self.check_at(2, [("rename", ((1,) + (2,) * 998, (2,))), ("rename", ((1,) + (2,) * 1001, (2,)))], 1)
        self.check_at(2, ACTS + [("drop", "b"), ("turn", "b", ())], len(ACTS) + 1)
        self.check_at(2, [("turn", "a", ())], 0)
        self.check_at(1, ACTS, 0)
        self.check_at(3, ACTS, 3)

    def test_500_acts_and_501(self):
        acts = [("keep", "a", (1,)), ("drop", "a")] * 250
        self.assertEqual(told(replayed(2, acts)), (2, [], [], same(2)))
        self.assertEqual(len(replayed(2, acts).journal()), 500)
        self.assertEqual(packed(2, tuple(acts)), [])
        self.check_at(2, acts + [("keep", "a", (1,))], -1)
        # No list comes ahead of an item that does not fit.
        self.check_at(2, [None] * 501, -1)
        self.check_at(2, acts[:499] + [None], 499)


class ReplayedTest(unittest.TestCase):
    def test_some(self):
        live = replayed(2, ACTS)
        self.assertIs(type(live), LiveRows)
        self.assertEqual(live.journal(), [act[:2] + tuple(map(afresh, act[2:])) for act in ACTS])
        self.assertEqual(told(replayed(4, [])), (4, [], [], same(4)))
        self.assertEqual(packed(4, ()), [])
        self.assertIs(live.redo(), False)
        for _ in ACTS:
            self.assertIs(live.undo(), True)
        self.assertIs(live.undo(), False)

    def test_packed(self):
        live = replayed(2, ACTS)
        self.assertEqual(packed(2, ACTS), [("rename", live.renaming()), ("keep", "a", live.row("a")), ("keep", "b", ())])
        self.assertEqual(packed(2, [("keep", "b", (1, -1)), ("keep", "a", (2, 2, -2))]),
                         [("keep", "a", (2,)), ("keep", "b", ())])
        self.assertEqual(packed(2, [("move", (1, (2,))), ("move", (-1, (2,)))]), [])
        self.assertEqual(packed(1, [("rename", ((-1,),))]), [("rename", ((-1,),))])

    def test_drawn(self):
        for seed in range(30):
            source = random.Random(f"journals {seed}")
            deeds = seed % 4 + 1
            model, acts = Model(deeds), []
            for _ in range(source.randint(0, 30)):
                act = drawn_act(source, deeds, ["a", "b", "c", "zz"])
                if model.error_of(act) is None:
                    model.do(act)
                    acts.append(act)
            elder = copy.deepcopy(acts)
            live, short = replayed(deeds, acts), packed(deeds, acts)
            rows, images = model.state()
            self.assertEqual(acts, elder)
            self.assertEqual(live.journal(), model.acts)
            self.assertEqual(told(live), (deeds, sorted(rows), [rows[name] for name in sorted(rows)], images))
            self.assertIs(type(short), list)
            right = [] if images == same(deeds) else [("rename", images)]
            self.assertEqual(short, right + [("keep", name, rows[name]) for name in sorted(rows)])
            self.assertEqual(told(replayed(deeds, short)), told(live))
            self.assertEqual(told(replayed(deeds, live.journal())), told(live))
            self.assertEqual(packed(deeds, live.journal()), short)
            self.assertEqual(packed(deeds, short), short)

    def test_the_first_that_does_not_fit(self):
        many = set()
        for seed in range(40):
            source = random.Random(f"first wrong act {seed}")
            deeds = seed % 4 + 1
            model, acts, at = Model(deeds), [], None
            for _ in range(12):
                act = drawn_act(source, deeds, ["a", "b"])
                if at is None and model.error_of(act) is not None:
                    at = len(acts)
                elif at is None:
                    model.do(act)
                acts.append(act)
            many.add(at)
            if at is None:
                self.assertEqual(replayed(deeds, acts).journal(), model.acts)
            else:
                for function in (replayed, packed):
                    with self.assertRaises(BadJournal) as caught:
                        function(deeds, acts)
                    self.assertEqual(caught.exception.at, at)
        self.assertGreater(len(many), 4)

    def test_each_is_new(self):
        one, other = replayed(2, ACTS), replayed(2, ACTS)
        one.keep("more", (1,))
        self.assertEqual(other.names(), ["a", "b"])
        short = packed(2, ACTS)
        short.clear()
        self.assertNotEqual(packed(2, ACTS), short)


if __name__ == "__main__":
    unittest.main()

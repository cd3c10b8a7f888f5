"""Points 9, 31 and 32: webs, what they are, what they read and make, and how it is spelled."""

import itertools
import random
import unittest

from meankept.errors import BadDeeds, BadPlace, BadRow, BadRows, BadSpelling, BadWeb, NotMade, UnlikeWebs
from meankept.full import full_webs
from meankept.lists import changed
from meankept.rings import meet_power, root
from meankept.rows import beside, times_row, undone
from meankept.webs import (free_list, is_over, is_web, made_power, makes, rank, read, spelled, told_row, ways,
                           web_of)
from tests.helpers import (NOT_DEEDS, afresh, all_rows, any_values, back, check_first_wrong, follow, is_plain,
                           is_plain_spelling, not_in, not_lists, not_rows, not_webs, plain_rows, some_lists,
                           some_rows, tell)

NOTHING = (2, 1, ())
WHOLE = (2, 1, ((0, 1, 0), (0, 2, 0)))
STICK = (2, 2, ((0, 1, 1), (1, 2, 1)))
SQUARE = (2, 4, ((0, 1, 1), (0, 2, 2), (1, 2, 3), (2, 1, 3)))
SOME = [NOTHING, WHOLE, STICK, SQUARE, (2, 1, ((0, 1, 0),)), (2, 1, ((0, 2, 0),)), (2, 2, ((0, 1, 1), (1, 1, 0))),
        (2, 2, ((0, 1, 1), (0, 2, 0), (1, 1, 0))), (2, 3, ((0, 1, 1), (0, 2, 2), (1, 1, 0), (2, 2, 0))),
        (2, 3, ((0, 1, 1), (1, 1, 2), (2, 2, 1)))]


def in_turn(deeds):
    """Return the letters in the sequence 1, -1, 2, -2, .."""
    return [letter for deed in range(1, deeds + 1) for letter in (deed, -deed)]


def naive_numbers(deeds, ties, first):
    """Return the numbers of the places that can be reached from the first one, as point 9 tells them."""
    numbers = [first]
    for place in numbers:
        for letter in in_turn(deeds):
            for start, deed, goal in ties:
                if (letter, place) == (deed, start) and goal not in numbers:
                    numbers.append(goal)
                if (letter, place) == (-deed, goal) and start not in numbers:
                    numbers.append(start)
    return numbers


def naive_renumbered(deeds, ties, first):
    """Return the web of ties, numbered from the place first on."""
    numbers = naive_numbers(deeds, ties, first)
    found = sorted((numbers.index(start), deed, numbers.index(goal)) for start, deed, goal in ties
                   if start in numbers)
    return (deeds, len(numbers), tuple(found))


def naive_web(deeds, rows, source):
    """Return the web of rows, as point 9 tells it: like ties become one in a drawn sequence."""
    ties = set()
    many = 1
    for row in map(afresh, rows):
        place = 0
        for at, letter in enumerate(row):
            goal = 0 if at == len(row) - 1 else many
            many += 1
            ties.add((place, letter, goal) if letter > 0 else (goal, -letter, place))
            place = goal
    while True:
        like = []
        for one, other in itertools.combinations(sorted(ties), 2):
            if one[1] == other[1] and one[0] == other[0]:
                like.append((one[2], other[2]))
            if one[1] == other[1] and one[2] == other[2]:
                like.append((one[0], other[0]))
        if not like:
            break
        keep, gone = sorted(source.choice(like))
        ties = {(keep if start == gone else start, deed, keep if goal == gone else goal)
                for start, deed, goal in ties}
    while True:
        ends = [end for start, _, goal in ties for end in (start, goal)]
        loose = {end for end in ends if end != 0 and ends.count(end) == 1}
        if not loose:
            return naive_renumbered(deeds, sorted(ties), 0)
        ties = {tie for tie in ties if tie[0] not in loose and tie[2] not in loose}


def naive_is_web(deeds, places, ties):
    """Return whether ascending unlike ties of so many places make a web."""
    if len({tie[:2] for tie in ties}) < len(ties) or len({tie[1:] for tie in ties}) < len(ties):
        return False
    ends = [end for start, _, goal in ties for end in (start, goal)]
    if any(ends.count(place) < 2 for place in range(1, places)):
        return False
    return naive_numbers(deeds, ties, 0) == list(range(places))


def drawn_webs(many, size, seed):
    """Return so many triples (deeds, rows, web of rows)."""
    return [(deeds, rows, web_of(deeds, rows)) for deeds, rows in some_lists(many, size, seed)]


class IsWebTest(unittest.TestCase):
    def test_some(self):
        for web in SOME:
            self.assertIs(is_web(web), True, web)
        for deeds in (1, 2, 3, 4):
            self.assertIs(is_web((deeds, 1, ())), True)
            self.assertIs(is_web((deeds, 1, ((0, deeds, 0),))), True)

    def test_any_value(self):
        for value in not_webs():
            self.assertIs(is_web(value), False, value)
        self.assertIs(is_web(value=WHOLE), True)

    def test_all_small_tuples_of_ties(self):
        for deeds, places, most in ((1, 1, 1), (1, 2, 4), (1, 3, 9), (2, 1, 2), (2, 2, 8), (2, 3, 4), (3, 2, 5)):
            every = [(start, deed, goal) for start in range(places) for deed in range(1, deeds + 1)
                     for goal in range(places)]
            found = 0
            for many in range(most + 1):
                for ties in itertools.combinations(every, many):
                    right = naive_is_web(deeds, places, ties)
                    self.assertIs(is_web((deeds, places, ties)), right, ties)
                    found += right
            self.assertGreater(found, 0)

    def test_any_size(self):
        for many in (61, 1000, 2500):
            ring = (1, many, tuple((place, 1, (place + 1) % many) for place in range(many)))
            self.assertIs(is_web(ring), False)
            self.assertIs(is_web(naive_ring_web(many)), True)
            self.assertEqual(rank(naive_ring_web(many)), 1)

    def test_webs_of_rows_are_webs_and_nearly_webs_are_none(self):
        source = random.Random("nearly")
        for deeds, _, web in drawn_webs(150, 6, "webs"):
            self.assertIs(is_web(web), True)
            _, places, ties = web
            if len(ties) > 30:
                continue
            for _ in range(10):
                changed_ties = list(ties)
                if ties:
                    at = source.randrange(len(ties))
                    tie = list(ties[at])
                    tie[source.randrange(3)] = source.randint(0, places)
                    changed_ties[at] = tuple(tie)
                candidate = (deeds, places, tuple(sorted(changed_ties)))
                fits = all(0 <= start < places and 0 <= goal < places and 1 <= deed <= deeds
                           for start, deed, goal in changed_ties) and len(set(changed_ties)) == len(ties)
                right = fits and naive_is_web(deeds, places, candidate[2])
                self.assertIs(is_web(candidate), right, candidate)


def naive_ring_web(many):
    """Return the web of many times the letter 1, numbered: the places are met in both directions in turn."""
    numbers = [0] * many
    for place in range(1, many):
        numbers[place] = 2 * place - 1 if 2 * place <= many else 2 * (many - place)
    ties = sorted((numbers[place], 1, numbers[(place + 1) % many]) for place in range(many))
    return (1, many, tuple(ties))


class WrongValuesTest(unittest.TestCase):
    def test_web_of(self):
        check_first_wrong(self, web_of, {"deeds": 2, "rows": [(1, 2)]},
                          {"deeds": (BadDeeds, NOT_DEEDS), "rows": (BadRows, not_lists(2))})

    def test_a_web_alone(self):
        for function in (rank, ways, free_list):
            check_first_wrong(self, function, {"web": SQUARE}, {"web": (BadWeb, not_webs())})

    def test_a_web_and_a_row(self):
        for function in (makes, made_power, spelled):
            check_first_wrong(self, function, {"web": WHOLE, "row": (1, 2)},
                              {"web": (BadWeb, not_webs()), "row": (BadRow, not_rows(2))})

    def test_read(self):
        check_first_wrong(self, read, {"web": SQUARE, "row": (1, 2), "place": 3},
                          {"web": (BadWeb, not_webs()), "row": (BadRow, not_rows(2)),
                           "place": (BadPlace, not_in(4))})

    def test_told_row(self):
        wrong = any_values() + [
            0, 1, (3,), (-3,), (0,), (1, 0), (True,), (1, True), (False,), ("1",), ((1,),), [1], (None,), (1, [2]),
            (10 ** 29,), (-10 ** 29,), (1,) * 2001, (1, -1) * 1000 + (1,)]
        check_first_wrong(self, told_row, {"web": WHOLE, "spelling": (1, 2)},
                          {"web": (BadWeb, not_webs()), "spelling": (BadSpelling, wrong)})

    def test_is_over(self):
        check_first_wrong(self, is_over, {"one": WHOLE, "other": SQUARE},
                          {"one": (BadWeb, not_webs()), "other": (BadWeb, not_webs())})

    def test_letters_of_other_deeds(self):
        for deeds in (1, 2, 3):
            web = web_of(deeds, [(1,)])
            for row in ((deeds + 1,), (-deeds - 1,), (1, deeds + 1)):
                for call in (lambda: read(web, row, 0), lambda: makes(web, row), lambda: spelled(web, row),
                             lambda: made_power(web, row)):
                    with self.assertRaises(BadRow):
                        call()
                with self.assertRaises(BadRow):
                    read(web, row, 7)

    def test_unlike_webs_come_last(self):
        for one, other in itertools.permutations([1, 2, 3, 4], 2):
            with self.assertRaises(UnlikeWebs):
                is_over((one, 1, ()), (other, 1, ()))
            with self.assertRaises(BadWeb):
                is_over((one, 1, ()), (other, 0, ()))
            with self.assertRaises(BadWeb):
                is_over((one, 0, ()), (other, 1, ()))

    def test_not_made(self):
        for web, row in ((NOTHING, (1,)), (STICK, (1,)), (STICK, (2,)), (SQUARE, (1, 2)), (SQUARE, (1, 1)),
                         ((2, 2, ((0, 1, 1), (1, 1, 0))), (1, 1, 1))):
            with self.assertRaises(NotMade):
                spelled(web, row)
            with self.assertRaises(BadRow):
                spelled(web, row + (3,))
        self.assertEqual(spelled(NOTHING, ()), ())
        self.assertEqual(spelled(NOTHING, (1, -1)), ())


class WebOfTest(unittest.TestCase):
    def test_examples_by_hand(self):
        self.assertEqual(web_of(2, [(1, 2, -1)]), STICK)
        self.assertEqual(ways(STICK), [(), (1,)])
        self.assertEqual(web_of(2, [(1, 1, 2), (1, 2)]), WHOLE)

    def test_examples_of_other_points(self):
        self.assertEqual(web_of(2, [(1, 2, -1, -2)]), SQUARE)
        self.assertEqual(web_of(2, [(1, 1), (2,)]), (2, 2, ((0, 1, 1), (0, 2, 0), (1, 1, 0))))
        self.assertEqual(web_of(2, [(1, 1), (2, 2)]), (2, 3, ((0, 1, 1), (0, 2, 2), (1, 1, 0), (2, 2, 0))))
        four = web_of(2, [(1, 1), (2, 2), (1, 2, 2, -1)])
        self.assertEqual((four[1], rank(four)), (4, 3))

    def test_no_rows(self):
        for deeds in (1, 2, 3, 4):
            for rows in ([], (), [()], [()] * 6, [(1, -1)], [(), (deeds, -deeds) * 100]):
                self.assertEqual(web_of(deeds, rows), (deeds, 1, ()))

    def test_as_told_in_a_drawn_sequence(self):
        source = random.Random("sequence")
        for deeds, rows in some_lists(120, 5, "folded"):
            right = web_of(deeds, rows)
            for _ in range(2):
                self.assertEqual(naive_web(deeds, rows, source), right, rows)

    def test_all_short_rows(self):
        source = random.Random("short")
        for row in plain_rows(2, 4):
            self.assertEqual(web_of(2, [row]), naive_web(2, [row], source))
        for one, other in itertools.product(plain_rows(2, 2), repeat=2):
            self.assertEqual(web_of(2, [one, other]), naive_web(2, [one, other], source))

    def test_rows_that_are_not_plain(self):
        for row in all_rows(2, 5):
            self.assertEqual(web_of(2, [row]), web_of(2, [afresh(row)]))

    def test_long_rings(self):
        for many in (1, 2, 3, 4, 61, 199, 200):
            self.assertEqual(web_of(1, [(1,) * many]), naive_ring_web(many))
        self.assertEqual(web_of(1, [(1,) * 200, (-1,) * 120]), naive_ring_web(40))

    def test_six_long_rows(self):
        rows = [tuple(row[:200]) for row in some_rows(4, 6, 200, "six long")]
        web = web_of(4, rows)
        self.assertTrue(is_web(web))
        self.assertTrue(all(makes(web, row) for row in rows))
        self.assertEqual(web_of(4, list(reversed(rows))), web)
        self.assertEqual(web_of(4, tuple(rows)), web)

    def test_other_rows_that_make_the_same(self):
        source = random.Random("the same")
        for deeds, rows, web in drawn_webs(80, 6, "same"):
            for _ in range(6):
                others = list(rows)
                source.shuffle(others)
                at = source.randrange(len(others)) if others else 0
                others[at:at + 1] = [back(row) for row in others[at:at + 1]]
                if len(others) < 6 and others:
                    spelling = [source.choice([-1, 1]) * source.randint(1, len(others)) for _ in range(3)]
                    more = tell(others, spelling)
                    others.append(more if len(more) <= 200 else ())
                self.assertEqual(web_of(deeds, others), web, (rows, others))

    def test_more_deeds(self):
        for row in plain_rows(2, 4):
            places, ties = web_of(2, [row])[1:]
            self.assertEqual(web_of(3, [row]), (3, places, ties))

    def test_two_lists_make_the_same_exactly_if_their_webs_are_equal(self):
        lists = [list(pair) for pair in itertools.combinations_with_replacement(plain_rows(2, 2), 2)]
        webs = [web_of(2, rows) for rows in lists]
        for (one, web), (other, mate) in itertools.product(list(zip(lists, webs)), repeat=2):
            same = all(makes(web, row) for row in other) and all(makes(mate, row) for row in one)
            self.assertEqual(web == mate, same)


class ReadTest(unittest.TestCase):
    def test_all_short_rows(self):
        for web in SOME:
            for row in plain_rows(2, 4):
                for place in range(web[1]):
                    self.assertEqual(read(web, row, place), follow(web, row, place), (web, row))
                self.assertIs(makes(web, row), follow(web, row) == 0)

    def test_the_plain_row_is_read(self):
        self.assertEqual(read(STICK, (2, -2, 1), 0), 1)
        self.assertEqual(read(STICK, (2, -2), 0), 0)
        self.assertIsNone(read(STICK, (2,), 0))
        self.assertIs(makes(NOTHING, (2, 1, -1, -2)), True)
        self.assertEqual(made_power(NOTHING, (2, -2)), 1)

    def test_first_and_last_place(self):
        self.assertEqual(read(SQUARE, (), 0), 0)
        self.assertEqual(read(SQUARE, (), 3), 3)
        self.assertEqual(read(SQUARE, (-1, -2), 3), 0)
        self.assertIsNone(read(SQUARE, (1,), 3))
        for place in (4, -1, True, False):
            with self.assertRaises(BadPlace):
                read(SQUARE, (), place)
        for place in (1, -1, False):
            with self.assertRaises(BadPlace):
                read(NOTHING, (), place)

    def test_a_web_makes_the_products_of_its_rows(self):
        source = random.Random("products")
        for deeds, rows, web in drawn_webs(100, 8, "made"):
            self.assertIs(makes(web, ()), True)
            for _ in range(10 if rows else 0):
                spelling = [source.choice([-1, 1]) * source.randint(1, len(rows)) for _ in range(4)]
                row = tell(rows, spelling)
                if len(row) <= 200:
                    self.assertIs(makes(web, row), True)

    def test_a_web_makes_nothing_but_products_of_its_rows(self):
        # All products through rows of at most 9 letters; these are all that are made, for such short rows.
        for rows in ([(1, 1)], [(1, 2, -1)], [(1, 1), (2,)], [(1, 2), (2, 1)], [(1, 1), (1, 2)], [(1, 2, -1, -2)],
                     [(1, 1, 1), (1, 1)], [(1, 2, 1), (2,), (1, 1, 1)]):
            made = {()}
            waiting = [()]
            while waiting:
                row = waiting.pop()
                for other in rows + [back(row) for row in rows]:
                    longer = afresh(row + other)
                    if len(longer) <= 9 and longer not in made:
                        made.add(longer)
                        waiting.append(longer)
            web = web_of(2, rows)
            for row in plain_rows(2, 5):
                self.assertIs(makes(web, row), row in made, (rows, row))

    def test_ranks(self):
        for web, right in ((NOTHING, 0), (WHOLE, 2), (STICK, 1), (SQUARE, 1)):
            self.assertEqual(rank(web), right)
        for _, rows, web in drawn_webs(100, 8, "ranks"):
            self.assertEqual(rank(web), len(web[2]) - web[1] + 1)
            self.assertLessEqual(rank(web), len(rows))


class WaysTest(unittest.TestCase):
    def test_some(self):
        self.assertEqual(ways(NOTHING), [()])
        self.assertEqual(ways(WHOLE), [()])
        self.assertEqual(ways(SQUARE), [(), (1,), (2,), (1, 2)])
        self.assertEqual(ways(naive_ring_web(5)), [(), (1,), (-1,), (1, 1), (-1, -1)])
        self.assertEqual(ways(naive_ring_web(4)), [(), (1,), (-1,), (1, 1)])

    def test_a_way_is_the_first_of_the_shortest_rows(self):
        for deeds, _, web in drawn_webs(60, 4, "ways") + [(2, [], web) for web in full_webs(2, 3) + SOME]:
            found = {}
            level = [()]
            while len(found) < web[1]:
                for row in level:
                    found.setdefault(follow(web, row), row)
                level = [row + (letter,) for row in level for letter in in_turn(deeds)
                         if row[-1:] != (-letter,) and follow(web, row + (letter,)) is not None]
            self.assertEqual(ways(web), [found[place] for place in range(web[1])])

    def test_new_lists(self):
        for function in (ways, free_list):
            found = function(SQUARE)
            right = list(found)
            found.append(1)
            self.assertEqual(function(SQUARE), right)


class FreeListTest(unittest.TestCase):
    def test_some(self):
        self.assertEqual(free_list(NOTHING), [])
        self.assertEqual(free_list(WHOLE), [(1,), (2,)])
        self.assertEqual(free_list(STICK), [(1, 2, -1)])
        self.assertEqual(free_list(SQUARE), [(2, 1, -2, -1)])
        self.assertEqual(free_list(naive_ring_web(3)), [(1, 1, 1)])

    def test_as_told(self):
        for deeds, rows, web in drawn_webs(150, 6, "free") + [(2, [], web) for web in full_webs(2, 3)]:
            found = ways(web)
            last_steps = {(follow(web, way[:-1]), way[-1]) for way in found if way}
            right = [found[start] + (deed,) + back(found[goal]) for start, deed, goal in web[2]
                     if (start, deed) not in last_steps and (goal, -deed) not in last_steps]
            self.assertEqual(free_list(web), right)
            self.assertEqual(len(right), rank(web))
            for row in right:
                self.assertTrue(is_plain(row) and row != ())
                self.assertEqual(follow(web, row), 0)
            if rank(web) <= 6:
                self.assertEqual(web_of(deeds, right), web)

    def test_free_lists_are_free(self):
        # No plain spelling of up to 4 numbers, but the empty one, tells ().
        for web in SOME + full_webs(2, 2) + [web for _, _, web in drawn_webs(40, 4, "is free")]:
            rows = free_list(web)
            for spelling in plain_rows(min(len(rows), 4), 4) if rows else []:
                self.assertEqual(tell(rows, spelling) == (), spelling == ())


class SpelledTest(unittest.TestCase):
    def test_there_and_back(self):
        source = random.Random("there and back")
        for _, _, web in drawn_webs(120, 8, "spelled") + [(2, [], web) for web in full_webs(2, 3)]:
            many = rank(web)
            rows = free_list(web)
            for _ in range(6):
                spelling = [source.choice([-1, 1]) * source.randint(1, many) for _ in range(6)] if many else []
                short = afresh(spelling)
                row = told_row(web, tuple(spelling))
                self.assertEqual(row, tell(rows, spelling))
                self.assertEqual(told_row(web, short), row)
                if len(row) <= 200:
                    self.assertEqual(spelled(web, row), short)

    def test_all_short_rows(self):
        for web in SOME:
            for row in all_rows(2, 5):
                if makes(web, row):
                    found = spelled(web, row)
                    self.assertTrue(is_plain_spelling(free_list(web), found))
                    self.assertEqual(told_row(web, found), afresh(row))
                else:
                    with self.assertRaises(NotMade):
                        spelled(web, row)

    def test_only_one_plain_spelling_tells_a_row(self):
        for web in (WHOLE, SQUARE, (2, 2, ((0, 1, 1), (0, 2, 0), (1, 1, 0)))):
            told = {}
            for spelling in plain_rows(rank(web), 4):
                row = told_row(web, spelling)
                self.assertNotIn(row, told)
                told[row] = spelling
                self.assertEqual(spelled(web, row), spelling)

    def test_the_empty_spelling(self):
        for web in SOME:
            self.assertEqual(told_row(web, ()), ())
            self.assertEqual(spelled(web, ()), ())

    def test_numbers_up_to_the_rank(self):
        for web in SOME + full_webs(2, 2):
            many = rank(web)
            for number in range(-many - 2, many + 3):
                if number != 0 and abs(number) <= many:
                    rows = free_list(web)
                    right = rows[number - 1] if number > 0 else back(rows[-number - 1])
                    self.assertEqual(told_row(web, (number,)), right)
                else:
                    with self.assertRaises(BadSpelling):
                        told_row(web, (number,))

    def test_long_spellings(self):
        self.assertEqual(told_row(WHOLE, (1,) * 2000), (1,) * 2000)
        self.assertEqual(told_row(WHOLE, (1, -1) * 1000), ())
        self.assertEqual(told_row(STICK, (1,) * 2000), (1,) + (2,) * 2000 + (-1,))
        for spelling in ((1,) * 2001, (1, -1) * 1000 + (1,)):
            with self.assertRaises(BadSpelling):
                told_row(WHOLE, spelling)
        for spelling in ((1,), (-1,), (0,), [], None, ""):
            with self.assertRaises(BadSpelling):
                told_row(NOTHING, spelling)

    def test_the_longest_rows(self):
        self.assertEqual(spelled(WHOLE, (1, 2) * 100), (1, 2) * 100)
        self.assertEqual(spelled(WHOLE, (-1,) * 200), (-1,) * 200)
        with self.assertRaises(BadRow):
            spelled(WHOLE, (1,) * 201)


class IsOverTest(unittest.TestCase):
    def test_some(self):
        for web in SOME:
            self.assertIs(is_over(WHOLE, web), True)
            self.assertIs(is_over(web, NOTHING), True)
            self.assertIs(is_over(web, web), True)
            self.assertIs(is_over(NOTHING, web), web == NOTHING)
        self.assertIs(is_over(web_of(1, [(1, 1)]), web_of(1, [(1,) * 6])), True)
        self.assertIs(is_over(web_of(1, [(1,) * 6]), web_of(1, [(1, 1)])), False)

    def test_by_the_rows_that_make(self):
        lists = [(deeds, rows, web) for deeds, rows, web in drawn_webs(150, 3, "over") if deeds == 2]
        lists += [(2, list(rows), web_of(2, rows)) for rows in itertools.product(plain_rows(2, 2), repeat=2)][::7]
        self.assertGreater(len(lists), 60)
        for (_, _, web), (_, rows, other) in itertools.product(lists, repeat=2):
            self.assertIs(is_over(web, other), all(makes(web, row) for row in rows))

    def test_more_rows_make_more(self):
        for deeds, rows, web in drawn_webs(100, 6, "more"):
            self.assertIs(is_over(web, web_of(deeds, rows[1:])), True)
            self.assertIs(is_over(web_of(deeds, rows[1:]), web), web_of(deeds, rows[1:]) == web)


class MadePowerTest(unittest.TestCase):
    def test_some(self):
        ring = web_of(1, [(1,) * 6])
        self.assertEqual([made_power(ring, (1,) * many) for many in range(8)], [1, 6, 3, 2, 3, 6, 1, 6])
        self.assertEqual(made_power(WHOLE, (1, 2, -1)), 1)
        self.assertEqual(made_power(STICK, (1, 2, -1)), 1)
        self.assertIsNone(made_power(STICK, (1,)))
        self.assertIsNone(made_power(STICK, (2,)))
        self.assertIsNone(made_power(NOTHING, (1,)))
        self.assertEqual(made_power(naive_ring_web(200), (-1,)), 200)
        self.assertEqual(made_power(naive_ring_web(199), (1,) * 200), 199)

    def test_nothing_is_made_once(self):
        for web in SOME:
            self.assertEqual(made_power(web, ()), 1)

    def test_against_reading(self):
        webs = [web for deeds, _, web in drawn_webs(60, 4, "powers") if deeds == 2]
        for web in SOME + webs + full_webs(2, 3)[:6]:
            for row in plain_rows(2, 3) + [(1, 2, 2, -1), (1, 2, 1, 2, -1), (2, 1, 2, -1, -2)]:
                times = [many for many in range(1, web[1] + 1)
                         if follow(web, afresh(row * many)) == 0]
                self.assertEqual(made_power(web, row), times[0] if times else None, (web, row))

    def test_turned_rows(self):
        for web in full_webs(2, 3) + SOME:
            for row in plain_rows(2, 2):
                turned = afresh((1, 2) + row + (-2, -1))
                found = made_power(web, turned)
                for many in range(1, web[1] + 1):
                    if follow(web, afresh(turned * many)) == 0:
                        self.assertEqual(found, many)
                        break
                else:
                    self.assertIsNone(found)


class CommutingTest(unittest.TestCase):
    def test_rows_commute_exactly_if_the_web_of_both_has_the_rank_0_or_1(self):
        for deeds, size in ((1, 4), (2, 3), (3, 2)):
            for one, other in itertools.product(plain_rows(deeds, size), repeat=2):
                web = web_of(deeds, [one, other])
                self.assertEqual(meet_power(deeds, one, other)[0] == "powers", rank(web) in (0, 1))

    def test_rows_that_commute_are_made_by_one_root(self):
        for base in plain_rows(2, 3)[1:]:
            for first, second in ((2, 3), (4, 6), (-3, 5), (0, 2)):
                lot = [times_row(2, base, first), times_row(2, base, second)]
                found = free_list(web_of(2, lot))
                self.assertEqual(len(found), 1)
                self.assertIn(root(2, found[0])[0], (root(2, base)[0], undone(2, root(2, base)[0])))

    def test_the_rank_of_rows_apart_is_two(self):
        for one, other in zip(some_rows(3, 60, 30, "one"), some_rows(3, 60, 30, "other")):
            word, *_ = meet_power(3, one, other)
            self.assertEqual(rank(web_of(3, [one, other])) == 2, word == "apart")
            self.assertEqual(rank(web_of(3, [beside(3, one, other), other])) == 2, word == "apart")


class ChangesTest(unittest.TestCase):
    def test_no_change_changes_what_is_made(self):
        for deeds, rows, web in drawn_webs(60, 6, "changes"):
            for at, by in itertools.permutations(range(len(rows)), 2):
                for change in (("undo", at), ("put", at, by), ("swap", at, by)):
                    others = changed(deeds, rows, change)
                    if all(len(row) <= 200 for row in others):
                        self.assertEqual(web_of(deeds, others), web)


if __name__ == "__main__":
    unittest.main()

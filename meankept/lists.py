"""Lists of rows, and the changes that lead from one to another one that makes the same."""

from meankept.errors import BadChange, UnlikeMany
from meankept.folding import web_of_plain
from meankept.kinds import check_deeds, is_whole_from, taken_rows
from meankept.letters import met_letters, product_letters, undone_letters
from meankept.walks import spelling_of

MOST_LETTERS_BETWEEN = 100000


def is_change(many, value):
    """Return whether value is a change of a list of so many rows."""
    if not isinstance(value, tuple):
        return False
    if not all([is_whole_from(item, 0, many - 1) for item in value[1:]]):
        return False
    if len(value) == 2:
        return value[0] == "undo"
    return len(value) == 3 and value[0] in ("put", "swap") and value[1] != value[2]


def rows_behind(rows, change):
    """Return the list of plain rows behind a change of a list of plain rows."""
    found = list(rows)
    at = change[1]
    if change[0] == "undo":
        found[at] = undone_letters(rows[at])
    elif change[0] == "put":
        found[at] = product_letters(rows[at], rows[change[2]])
    else:
        found[at] = rows[change[2]]
        found[change[2]] = rows[at]
    return found


def make_change(words, changes, change):
    """Make a change of the list words, and put it behind the list changes."""
    words[:] = rows_behind(words, change)
    changes.append(change)


def size_and_halves(word):
    """Return the size and the halves of a word by which it is told which of two is the simpler one.

    A word and the same undone are equally simple.
    """
    half = (len(word) + 1) // 2
    one = word[:half]
    other = undone_letters(word)[:half]
    return (len(word), min(one, other), max(one, other))


def is_simpler_behind(one, other):
    """Return whether the word one with the word other behind it is simpler than one."""
    # With less than half of other taken out the word grows; this spares working out the halves.
    if 2 * met_letters(one, other) < len(other):
        return False
    return size_and_halves(product_letters(one, other)) < size_and_halves(one)


def make_simpler(words, changes, at, by):
    """Make the word of index at simpler by that of index by, if this can be done; return whether it can."""
    for undo_one in (False, True):
        one = undone_letters(words[at]) if undo_one else words[at]
        for undo_other in (False, True):
            other = undone_letters(words[by]) if undo_other else words[by]
            if is_simpler_behind(one, other):
                if undo_one:
                    make_change(words, changes, ("undo", at))
                if undo_other:
                    make_change(words, changes, ("undo", by))
                make_change(words, changes, ("put", at, by))
                return True
    return False


def make_all_simple(words, changes):
    """Make words simpler by one another as long as this can be done.

    As Nielsen has shown, words that make all letters are single letters and () then, for each letter
    just one. Each word gets simpler with each step, and there are finitely many simpler ones: it ends.
    """
    pairs = [(at, by) for at in range(len(words)) for by in range(len(words)) if at != by]
    again = True
    while again:
        again = False
        for at, by in pairs:
            while make_simpler(words, changes, at, by):
                again = True


def put_in_order(words, changes):
    """Bring words that are single letters and () in the order 1, 2, .., and then all ()."""
    many = len([word for word in words if word != ()])
    for goal in range(many):
        done = (goal + 1,)
        at = [place for place, word in enumerate(words) if word in (done, undone_letters(done))][0]
        if words[at] != done:
            make_change(words, changes, ("undo", at))
        if at != goal:
            make_change(words, changes, ("swap", goal, at))


def freeing_changes(web, rows):
    """Return changes that lead from plain rows to the free list of their web and then ()."""
    # The rows are taken as words of the free list: the changes are the same, and all ends in letters.
    words = [spelling_of(web, row) for row in rows]
    changes = []
    make_all_simple(words, changes)
    put_in_order(words, changes)
    return changes


def there_and_back(there, changes):
    """Return the changes there, and behind them what leads from the end of changes back to their beginning."""
    found = list(there)
    for change in reversed(changes):
        # Put behind is taken back by putting the same row behind, undone.
        undo = [("undo", change[2])] if change[0] == "put" else []
        for item in undo + [change] + undo:
            # Undone twice, or exchanged twice, all is as it was.
            if item[0] != "put" and found and found[-1] == item:
                found.pop()
            else:
                found.append(item)
    return found


def taken_two_lists(deeds, one, other):
    """Return the plain rows of one and of other; raise an error unless they are equally many rows."""
    check_deeds(deeds)
    first = taken_rows(deeds, one)
    second = taken_rows(deeds, other)
    if len(first) != len(second):
        raise UnlikeMany("both lists must have equally many rows")
    return first, second


def changed(deeds, rows, change):
    """Return the list of plain rows behind change."""
    check_deeds(deeds)
    plain_rows = taken_rows(deeds, rows)
    if not is_change(len(plain_rows), change):
        raise BadChange("a change must be an undo, a put or a swap with indexes of rows")
    return rows_behind(plain_rows, change)


def freed(deeds, rows):
    """Return changes that lead from rows to the free list of their web, with () behind it."""
    check_deeds(deeds)
    plain_rows = taken_rows(deeds, rows)
    return freeing_changes(web_of_plain(deeds, plain_rows), plain_rows)


def changes_between(deeds, one, other):
    """Return changes that lead from one to other, None if there are none."""
    first, second = taken_two_lists(deeds, one, other)
    web = web_of_plain(deeds, first)
    if web != web_of_plain(deeds, second):
        return None
    return there_and_back(freeing_changes(web, first), freeing_changes(web, second))


def are_changes(deeds, one, other, value):
    """Return whether value is a list of changes that lead from one to other."""
    now, goal = taken_two_lists(deeds, one, other)
    if not isinstance(value, (list, tuple)):
        return False
    for change in value:
        if not is_change(len(now), change):
            return False
        now = rows_behind(now, change)
        if any([len(row) > MOST_LETTERS_BETWEEN for row in now]):
            return False
    return now == goal

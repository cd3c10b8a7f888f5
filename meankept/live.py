"""A live house of rows: rows kept under names, acts on them that can be taken back, and questions."""

from meankept.errors import BadName, NoName, TooMany
from meankept.folding import web_of_plain
from meankept.houses import total_kept
from meankept.images import (MOST_IMAGE_LETTERS, back_images, images_behind, many_letters, move_images,
                             same_images)
from meankept.kinds import MOST_LETTERS, MOST_ROWS, check_deeds, taken_row
from meankept.letters import told_letters, turned_letters
from meankept.means import mean
from meankept.moves import check_move
from meankept.neighbours import rings_of_plain
from meankept.renamings import check_renaming
from meankept.shortest import rings_shortened
from meankept.walks import rank_of, steps_of, walked

MOST_NAMES = 20
MOST_NAME_LETTERS = 12
NAME_LETTERS = "abcdefghijklmnopqrstuvwxyz"


def check_name(name):
    """Raise BadName unless name is one."""
    if not isinstance(name, str) or not 1 <= len(name) <= MOST_NAME_LETTERS:
        raise BadName(f"a name must be a string of 1 to {MOST_NAME_LETTERS} letters")
    if not all([letter in NAME_LETTERS for letter in name]):
        raise BadName("a name must have letters from a to z alone")


def check_length(letters):
    """Raise TooMany if a plain row has too many letters to be kept."""
    if len(letters) > MOST_LETTERS:
        raise TooMany(MOST_LETTERS)


class LiveRows:
    """Rows kept under names, and the renaming so far."""

    def __init__(self, deeds):
        check_deeds(deeds)
        self.deeds = deeds
        # The acts, those at the end taken back; and the rows and the renaming ahead of each one and at last.
        self._acts = []
        self._states = [({}, same_images(deeds))]
        self._many = 0

    def _state(self):
        """Return the dict of the kept rows and the renaming so far."""
        return self._states[self._many]

    def _do(self, act, rows, images):
        """Do an act that leads to rows and to a renaming so far."""
        self._acts[self._many:] = [act]
        self._many += 1
        self._states[self._many:] = [(rows, images)]

    def _kept(self, name):
        """Return the row kept under name."""
        check_name(name)
        rows, _ = self._state()
        if name not in rows:
            raise NoName(f"no row is kept under {name}")
        return rows[name]

    def _some_kept(self, some):
        """Return the list of the rows kept under some names."""
        if not isinstance(some, (list, tuple)) or len(some) > MOST_ROWS:
            raise BadName(f"some must be a list of at most {MOST_ROWS} names")
        for name in some:
            check_name(name)
        return [self._kept(name) for name in some]

    def _put(self, act, name, letters):
        """Do an act that keeps a plain row under name."""
        rows, images = self._state()
        more = dict(rows)
        more[name] = letters
        self._do(act, more, images)

    def _rename(self, act, images):
        """Do an act that renames all kept rows."""
        rows, so_far = self._state()
        behind = images_behind(so_far, images)
        if many_letters(behind) > MOST_IMAGE_LETTERS:
            raise TooMany(MOST_IMAGE_LETTERS)
        others = {name: told_letters(images, row) for name, row in rows.items()}
        for row in others.values():
            check_length(row)
        self._do(act, others, behind)

    def keep(self, name, row):
        """Keep row under name, in the place of the elder one."""
        check_name(name)
        letters = taken_row(self.deeds, row)
        rows, _ = self._state()
        if name not in rows and len(rows) >= MOST_NAMES:
            raise TooMany(MOST_NAMES)
        self._put(("keep", name, letters), name, letters)

    def drop(self, name):
        """Keep no row under name any more."""
        self._kept(name)
        rows, images = self._state()
        self._do(("drop", name), {other: row for other, row in rows.items() if other != name}, images)

    def turn(self, name, by):
        """Keep the row under name turned by the row by."""
        row = self._kept(name)
        letters = taken_row(self.deeds, by)
        turned = turned_letters(row, letters)
        check_length(turned)
        self._put(("turn", name, letters), name, turned)

    def rename(self, renaming):
        """Rename all kept rows."""
        check_renaming(self.deeds, renaming)
        self._rename(("rename", renaming), renaming)

    def move(self, thing):
        """Rename all kept rows by the renaming of a move."""
        check_move(self.deeds, thing)
        self._rename(("move", thing), move_images(self.deeds, thing))

    def undo(self):
        """Take back the newest act that is not taken back; return whether there was one."""
        if self._many == 0:
            return False
        self._many -= 1
        return True

    def redo(self):
        """Do again the act that was taken back last; return whether there was one."""
        if self._many == len(self._acts):
            return False
        self._many += 1
        return True

    def journal(self):
        """Return the list of the acts that are not taken back, the oldest one first."""
        return self._acts[:self._many]

    def names(self):
        """Return the ascending list of the names under which rows are kept."""
        rows, _ = self._state()
        return sorted(rows)

    def row(self, name):
        """Return the row kept under name."""
        return self._kept(name)

    def renaming(self):
        """Return the renaming so far."""
        _, images = self._state()
        return images

    def origin(self, name):
        """Return the row of which the renaming so far makes the row kept under name."""
        row = self._kept(name)
        return told_letters(back_images(self.renaming()), row)

    def kept_total(self, some, places):
        """Return the sum over all houses of so many places of how many places some kept rows keep."""
        return total_kept(self.deeds, self._some_kept(some), places)

    def kept_mean(self, some, places):
        """Return the mean number of places that some kept rows keep in the houses of so many places."""
        return mean(self.deeds, self._some_kept(some), places)

    def web_rank(self, some):
        """Return the rank of the web of some kept rows."""
        return rank_of(web_of_plain(self.deeds, self._some_kept(some)))

    def can_make(self, some, name):
        """Return whether some kept rows make the row kept under name."""
        web = web_of_plain(self.deeds, self._some_kept(some))
        return walked(steps_of(web), self._kept(name), 0) == 0

    def same_ring(self, one, other):
        """Return whether one of the rows kept under two names is the other one turned."""
        first, second = rings_of_plain([self._kept(one), self._kept(other)])
        return first == second

    def is_letter(self, name):
        """Return whether some renaming leads the row kept under name to (1,)."""
        _, rings = rings_shortened(self.deeds, rings_of_plain([self._kept(name)]))
        return many_letters(rings) == 1

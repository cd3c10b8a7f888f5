"""A desk: lines of words said to a live house, and its answers."""

from meankept.errors import BadMove, BadNumber, KeepError
from meankept.kinds import MOST_ROWS
from meankept.live import LiveRows
from meankept.texts import images_told, letters_told, text_of_images, text_of_letters

FIRST_DEEDS = 2
MOST_DIGITS = 7
DIGITS = "0123456789"
# How many words stand behind each first word: the least number and the greatest one; a renaming has as many
# as there are deeds.
COUNTS = {
    "deeds": (1, 1), "keep": (2, 2), "drop": (1, 1), "turn": (2, 2), "move": (2, 2), "undo": (0, 0), "redo": (0, 0),
    "names": (0, 0), "row": (1, 1), "origin": (1, 1), "renaming": (0, 0), "total": (1, 1 + MOST_ROWS),
    "mean": (1, 1 + MOST_ROWS), "makes": (1, 1 + MOST_ROWS), "same": (2, 2), "letter": (1, 1)}


def read_whole(word):
    """Return the whole that a word of digits tells; raise BadNumber if it is none, or too long."""
    if len(word) > MOST_DIGITS or not all([sign in DIGITS for sign in word]):
        raise BadNumber(f"a number must be a word of 1 to {MOST_DIGITS} digits")
    return int(word)


def number_text(value):
    """Return the text of a number."""
    if isinstance(value, tuple):
        top, bottom = value
        return f"{top}/{bottom}"
    return str(value)


def told_move(deeds, letter, lot):
    """Return the move that two texts tell, its letter and the letters of its lot; raise an error if they tell none."""
    letters = letters_told(deeds, letter)
    if len(letters) != 1:
        raise BadMove("a move must have one letter ahead of its lot")
    return (letters[0], tuple(sorted(set(letters_told(deeds, lot)))))


class Desk:
    """A desk over a live house."""

    def __init__(self):
        self._live = LiveRows(FIRST_DEEDS)

    def say(self, line):
        """Return the answer to a line of words."""
        words = line.split(" ") if isinstance(line, str) else []
        if not self._is_line(words):
            return "what"
        try:
            return self._answer(words[0], words[1:])
        except KeepError:
            return "no"

    def _is_line(self, words):
        """Return whether words are a first word that is known, and as many words as it takes."""
        if words == [] or "" in words:
            return False
        least, most = COUNTS.get(words[0], (1, 0))
        if words[0] == "rename":
            least, most = self._live.deeds, self._live.deeds
        return least <= len(words) - 1 <= most

    def _answer(self, word, told):
        """Return the answer to a first word and the words behind it; raise an error if these do not fit."""
        if word in ("undo", "redo"):
            was_one = self._live.undo() if word == "undo" else self._live.redo()
            return "ok" if was_one else "nothing"
        if word in ("makes", "same", "letter"):
            return "yes" if self._holds(word, told) else "not"
        if word in ("names", "row", "origin", "renaming", "total", "mean"):
            return self._told(word, told)
        self._act(word, told)
        return "ok"

    def _act(self, word, told):
        """Do what a word tells to do."""
        live = self._live
        if word == "deeds":
            self._live = LiveRows(read_whole(told[0]))
        elif word == "keep":
            live.keep(told[0], letters_told(live.deeds, told[1]))
        elif word == "drop":
            live.drop(told[0])
        elif word == "turn":
            live.turn(told[0], letters_told(live.deeds, told[1]))
        elif word == "move":
            live.move(told_move(live.deeds, told[0], told[1]))
        else:
            live.rename(images_told(live.deeds, " ".join(told)))

    def _holds(self, word, told):
        """Return the answer to a question for whether something is so."""
        if word == "makes":
            return self._live.can_make(told[1:], told[0])
        if word == "same":
            return self._live.same_ring(told[0], told[1])
        return self._live.is_letter(told[0])

    def _told(self, word, told):
        """Return the answer to a question for names, a row, a renaming or a number."""
        live = self._live
        if word == "names":
            names = live.names()
            return " ".join(names) if names else "-"
        if word == "row":
            return text_of_letters(live.row(told[0]))
        if word == "origin":
            return text_of_letters(live.origin(told[0]))
        if word == "renaming":
            return text_of_images(live.renaming())
        if word == "total":
            return number_text(live.kept_total(told[1:], read_whole(told[0])))
        return number_text(live.kept_mean(told[1:], read_whole(told[0])))

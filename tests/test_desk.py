"""Point 126: the desk, and its answers against a live house."""

import random
import unittest

from meankept.desk import Desk
from meankept.errors import KeepError
from meankept.live import LiveRows
from meankept.texts import read_renaming, read_row, renaming_text
from tests.helpers import any_values, drawn_renaming, letters

WORDS = {"deeds": 1, "keep": 2, "drop": 1, "turn": 2, "move": 2, "undo": 0, "redo": 0, "names": 0, "row": 1, "origin": 1,
         "renaming": 0, "total": None, "mean": None, "makes": None, "same": 2, "letter": 1, "rename": 2}


def said(*lines):
    """Return the answers of a new desk to some lines."""
    desk = Desk()
    return [desk.say(line) for line in lines]


def number_told(value):
    """Return the text of a number."""
    return str(value) if isinstance(value, int) else "%d/%d" % value


def text_told(row):
    """Return the text of a plain row of any length and any deeds."""
    return "".join("abcd"[x - 1] if x > 0 else "ABCD"[-x - 1] for x in row) or "1"


def digits(word):
    """Return the whole that a word of one to seven digits tells."""
    if not 1 <= len(word) <= 7 or any(sign not in "0123456789" for sign in word):
        raise KeepError("no number")
    return int(word)


class DeskModel:
    """A desk worked out by a live house, line by line."""

    def __init__(self):
        self.live = LiveRows(2)

    def move(self, one, other):
        """Do the move that two texts tell."""
        deeds = self.live.deeds
        read_row(deeds, one)
        read_row(deeds, other)
        signs = {text_told((x,)): x for x in letters(deeds)}
        if one not in signs:
            raise KeepError("not one sign")
        self.live.move((signs[one], tuple(sorted({signs[sign] for sign in other if sign != "1"}))))

    def deeds(self, word):
        """Begin anew."""
        self.live = LiveRows(digits(word))

    def answer(self, line):
        """Return the answer to a line that has a known first word and as many words as it takes."""
        live, (word, *told) = self.live, line.split(" ")
        acts = {"deeds": self.deeds, "drop": live.drop, "move": self.move,
                "keep": lambda name, text: live.keep(name, read_row(live.deeds, text)),
                "turn": lambda name, text: live.turn(name, read_row(live.deeds, text)),
                "rename": lambda *told: live.rename(read_renaming(live.deeds, " ".join(told)))}
        questions = {"undo": lambda: "ok" if live.undo() else "nothing", "redo": lambda: "ok" if live.redo() else "nothing",
                     "names": lambda: " ".join(live.names()) or "-", "row": lambda name: text_told(live.row(name)),
                     "origin": lambda name: text_told(live.origin(name)),
                     "renaming": lambda: renaming_text(live.deeds, live.renaming()),
                     "total": lambda many, *names: number_told(live.kept_total(names, digits(many))),
                     "mean": lambda many, *names: number_told(live.kept_mean(names, digits(many))),
                     "makes": lambda name, *names: "yes" if live.can_make(names, name) else "not",
                     "same": lambda one, other: "yes" if live.same_ring(one, other) else "not",
                     "letter": lambda name: "yes" if live.is_letter(name) else "not"}
        try:
            if word in acts:
                acts[word](*told)
                return "ok"
            return questions[word](*told)
        except KeepError:
            return "no"


class DeskTest(unittest.TestCase):
    def test_at_first(self):
        self.assertEqual(said("names", "renaming", "undo", "redo", "mean 7", "total 2"),
                         ["-", "a=a b=b", "nothing", "nothing", "7", "8"])

    def test_some(self):
        self.assertEqual(
            said("keep x abAB", "keep y aa", "names", "mean 5 x", "total 3 x", "row x", "makes x y", "letter y",
                 "move a bB", "row y", "row x", "undo", "row x", "redo", "redo", "same x y", "turn y b", "row y",
                 "drop x", "names", "rename a=aB b=b", "row y", "origin y", "renaming"),
            ["ok", "ok", "x y", "5/4", "54", "abAB", "not", "not",
             "ok", "aa", "bABa", "ok", "abAB", "ok", "nothing", "not", "ok", "baaB",
             "ok", "y", "ok", "baBaBB", "abaaBA", "a=aB b=bAbaB"])

    def test_wrong_lines(self):
        for line in [value for value in any_values() if value != "names"] + [
                0, ("names",), ["names"], b"names", "", " ", "  ", "name", "Names", "NAMES", " names", "names ", "names\n",
                "names x", "keep", "keep x", "keep x a b", "keep  x a", "keep x  a", "keep x a ", "drop", "drop x y",
                "turn x", "turn x a b", "move a", "move a b c", "rename", "rename a=a", "rename a=a b=b c=c",
                "rename  a=a b=b", "undo x", "redo 1", "row", "row x y", "origin", "origin x y", "renaming x",
                "total", "total 1 a b c d e f g", "mean", "mean 1 a b c d e f g", "makes", "makes x a b c d e f g",
                "same", "same x", "same x y z", "letter", "letter x y", "deeds", "deeds 1 2", "deeds ", "what", "no",
                "total  3", "mean 3 ", "\tnames", "names\t", "keep\tx\ta", "journal", "1", "a"]:
            self.assertEqual(said(line), ["what"], line)

    def test_lines_that_do_not_fit(self):
        for line in ["keep X a", "keep x1 a", "keep abcdefghijklm a", "keep x c", "keep x a1", "keep x 11", "keep x \u00e4",
                     "keep x " + "a" * 201, "keep x x", "keep x a\n", "keep x\t a", "drop x", "drop X", "turn x a",
                     "turn one c", "turn one x", "move ab a", "move 1 b", "move a 1", "move a a", "move a A",
                     "move a ab", "move a c", "move c a", "move aA b", "move A aB", "rename a=a b=a", "rename a=a a=a",
                     "rename b=b a=a", "rename a=aB b=", "rename a= b=b", "rename x y", "row x", "row X", "origin x",
                     "origin 1", "total 0", "total 12345678", "total x", "total -1", "total 1.0", "total +1",
                     "total 1_0", "total \u0661", "total \u00b2", "total 0x1", "total 3 x", "total 3 one x", "total 3 1",
                     "total 1000001", "total 9999999", "total 6", "mean 0", "mean 1000001", "mean 00000001",
                     "mean 3 x", "mean x 3", "makes x", "makes one x", "makes x one", "same one x", "same x one",
                     "letter x", "deeds 0", "deeds 5", "deeds x", "deeds -1", "deeds 12345678", "deeds 2.", "mean one",
                     "total one 3"]:
            desk = Desk()
            self.assertEqual(desk.say("keep one abAB"), "ok")
            self.assertEqual(desk.say("keep two b"), "ok")
            self.assertEqual(desk.say("undo"), "ok")
            self.assertEqual(desk.say(line), "no", line)
            self.assertEqual([desk.say("names"), desk.say("row one"), desk.say("renaming"), desk.say("redo"),
                              desk.say("names")], ["one", "abAB", "a=a b=b", "ok", "one two"])

    def test_what_comes_ahead_of_no(self):
        self.assertEqual(said("keep X c d", "total x  3", "mean 0 ", "row X Y", "drop 1 2", "deeds 9 9",
                              "total 0 A B C D E F G", "rename a=a b=a c=c", "makes X A A A A A A A"), ["what"] * 9)

    def test_deeds(self):
        self.assertEqual(said("keep x ab", "deeds 3", "names", "undo", "rename a=a b=b", "rename a=a b=b c=cab",
                              "renaming", "deeds 0000001", "renaming", "rename a=A", "renaming", "keep x b",
                              "deeds 4", "keep x dD", "row x", "keep y D", "row y", "mean 0000002 y"),
                         ["ok", "ok", "-", "nothing", "what", "ok", "a=a b=b c=cab", "ok", "a=a", "ok", "a=A", "no",
                          "ok", "ok", "1", "ok", "D", "1"])

    def test_moves(self):
        self.assertEqual(said("deeds 3", "move a bcB", "renaming", "undo", "move A Bb", "renaming", "undo",
                              "move b aAaAcC", "renaming", "undo", "move C bb", "renaming"),
                         ["ok", "ok", "a=a b=Aba c=ca", "ok", "ok", "a=a b=abA c=c", "ok", "ok", "a=Bab b=b c=Bcb", "ok",
                          "ok", "a=a b=bC c=c"])

    def test_six_names_and_none(self):
        self.assertEqual(said("keep x a", "keep y bb", "total 2 x y x y x y", "mean 3 x x x x x x", "makes x",
                              "makes x y y y y y x", "makes y y", "mean 4 y x", "total 1"),
                         ["ok", "ok", "4", "1", "not", "yes", "yes", "1/2", "1"])

    def test_texts_of_any_length(self):
        desk = Desk()
        for line in ("rename a=a" + "b" * 60 + " b=b", "keep x " + "a" * 100):
            self.assertEqual(desk.say(line), "ok")
        self.assertEqual(desk.say("row x"), "a" * 100)
        self.assertEqual(desk.say("origin x"), ("a" + "B" * 60) * 100)
        self.assertEqual(desk.say("renaming"), "a=a" + "b" * 60 + " b=b")
        self.assertEqual(desk.say("keep y " + "aA" * 100), "ok")
        self.assertEqual(desk.say("row y"), "1")
        self.assertEqual(desk.say("keep abcdefghijkl a"), "ok")

    def test_two_desks(self):
        one, other = Desk(), Desk()
        one.say("keep x a")
        self.assertEqual([one.say("names"), other.say("names")], ["x", "-"])
        self.assertNotEqual(one, other)
        self.assertEqual(one.say(line="names"), "x")


def drawn_line(source, deeds):
    """Return a drawn line, which mostly has as many words as it needs."""
    word = source.choice(["keep", "keep", "keep", "keep", "turn", "move", "rename", "drop", "undo", "redo", "names", "row",
                          "origin", "renaming", "total", "mean", "makes", "same", "letter", "deeds"])
    signs = [text_told((x,)) for x in letters(deeds)] + ["x"] * (source.random() < 0.1)
    names = ["a", "b", "x", "row"] + ["B"] * (source.random() < 0.1)

    def text():
        """Return a drawn text of a row."""
        return "".join(source.choice(signs) for _ in range(source.randint(0, 5))) or "1"

    if word == "rename":
        return "rename " + renaming_text(deeds, drawn_renaming(source, deeds, 9))
    if word == "move":
        return f"move {source.choice(signs)} {text()}"
    if word in ("keep", "turn"):
        return f"{word} {source.choice(names)} {text()}"
    if word in ("total", "mean"):
        lot = [source.choice(names) for _ in range(source.choice([0, 1, 1, 2, 6]))]
        return " ".join([word, source.choice(["1", "2", "03", "4", "0", "x"])] + lot)
    if word == "makes":
        return " ".join([word] + [source.choice(names) for _ in range(source.randint(1, 4))])
    if word == "deeds":
        return "deeds " + source.choice("123450") if source.random() < 0.3 else "names"
    many = WORDS[word]
    return " ".join([word] + [source.choice(names) for _ in range(many)])


class DrawnTest(unittest.TestCase):
    def test_against_a_live_house(self):
        counts = {}
        for seed in range(30):
            source = random.Random(f"desk {seed}")
            desk, model = Desk(), DeskModel()
            for _ in range(80):
                line = drawn_line(source, model.live.deeds)
                if source.random() < 0.04:
                    wrong = source.choice([line + " ", " " + line, line.replace(" ", "  ", 1) + " ", line + " a b c d e f g h"])
                    self.assertEqual(desk.say(wrong), "what", wrong)
                found = desk.say(line)
                self.assertEqual(found, model.answer(line), line)
                kind = found if found in ("ok", "no", "nothing", "yes", "not", "-") else "else"
                counts[kind] = counts.get(kind, 0) + 1
        self.assertGreater(min(counts[kind] for kind in ("ok", "no", "nothing", "yes", "not", "-", "else")), 10)


if __name__ == "__main__":
    unittest.main()

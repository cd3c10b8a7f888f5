"""Points 121 and 122: texts of rows and of renamings."""

import itertools
import random
import unittest

from meankept.errors import BadDeeds, BadRenaming, BadRow, BadText
from meankept.renamings import is_renaming
from meankept.texts import read_renaming, read_row, renaming_text, row_text
from tests.helpers import (NOT_DEEDS, afresh, all_rows, any_values, check_first_wrong, drawn_renaming, is_plain,
                           not_renamings, not_rows, same, size, some_renamings, some_rows)

SIGNS = "abcdABCD"
NO_STRINGS = [value for value in any_values() if not isinstance(value, str)] + [0, 1, -1, (), (1,), ("a",), ["a"]]


def sign(letter):
    """Return the sign of a letter."""
    return SIGNS[letter - 1] if letter > 0 else SIGNS[3 - letter]


def signs_of(deeds):
    """Return the signs of all letters of so many deeds."""
    return SIGNS[:deeds] + SIGNS[4:4 + deeds]


def told(row):
    """Return the signs of the letters of a row, plain or not; "1" for none."""
    return "".join(sign(letter) for letter in row) or "1"


def row_begins(deeds, text):
    """Return whether some text of a row begins with text."""
    return text == "1" or (len(text) <= 200 and all(letter in signs_of(deeds) for letter in text))


def renaming_begins(deeds, text):
    """Return whether some text of a renaming begins with text."""
    parts = text.split(" ")
    if len(parts) > deeds:
        return False
    for at, part in enumerate(parts):
        ahead, image = part[:2], part[2:]
        is_last = at == len(parts) - 1
        if not (SIGNS[at] + "=").startswith(ahead):
            return False
        if image != "1" and not all(letter in signs_of(deeds) for letter in image):
            return False
        if not is_last and image == "":
            return False
    return True


def fits_renaming(deeds, text):
    """Return whether a text has the form of the text of a renaming."""
    parts = text.split(" ")
    return renaming_begins(deeds, text) and len(parts) == deeds and len(parts[-1]) > 2


def right_at(begins, text):
    """Return how many characters the longest fitting beginning of a text has."""
    return max(many for many in range(len(text) + 1) if many == 0 or begins(text[:many]))


class WrongValuesTest(unittest.TestCase):
    def test_texts_of(self):
        check_first_wrong(self, row_text, {"deeds": 2, "row": (1, 2)},
                          {"deeds": (BadDeeds, NOT_DEEDS), "row": (BadRow, not_rows(2))})
        check_first_wrong(self, renaming_text, {"deeds": 2, "renaming": ((1, 2), (2,))},
                          {"deeds": (BadDeeds, NOT_DEEDS), "renaming": (BadRenaming, not_renamings())})

    def test_texts_read(self):
        wrong = NO_STRINGS + ["", "1a", "abx", "abc", "ab ", " ab", "0", "2", "a1", "a" * 201]
        check_first_wrong(self, read_row, {"deeds": 2, "text": "abA"},
                          {"deeds": (BadDeeds, NOT_DEEDS), "text": (BadText, wrong)})
        wrong = NO_STRINGS + ["", "a", "a=", "a=a", "a=a ", "a=a b", "a=a b=", "a=a b=b ", "a=a b=b c=c", "a=a  b=b",
                              "b=b a=a", "a=1a b=b", "a=a b=11", "a=a b=c", "A=a b=b", " a=a b=b", "a=a,b=b", "a:a b=b"]
        check_first_wrong(self, read_renaming, {"deeds": 2, "text": "a=aB b=b"},
                          {"deeds": (BadDeeds, NOT_DEEDS), "text": (BadText, wrong)})

    def check_at(self, function, deeds, text, at):
        """Check that a text does not fit and how far it does."""
        with self.assertRaises(BadText) as caught:
            function(deeds, text)
        self.assertEqual(caught.exception.at, at, text)

    def test_no_strings(self):
        for value in NO_STRINGS:
            for function in (read_row, read_renaming):
                self.check_at(function, 2, value, -1)

    def test_how_far_a_row_fits(self):
        for deeds, text, at in ((2, "", 0), (2, "1a", 1), (2, "a" * 201, 200), (2, "abx", 2), (2, "abc", 2),
                                (1, "ab", 1), (4, "abcdABCDe", 8), (4, "e", 0), (2, " a", 0), (2, "a ", 1), (2, "11", 1),
                                (2, "a1", 1), (1, "B", 0), (4, "a" * 300, 200), (4, "a" * 199 + "xx", 199),
                                (4, "a" * 200 + "x", 200), (2, "a\n", 1), (2, "1 ", 1), (3, "\u00e4", 0), (3, "a\u00e4", 1)):
            self.check_at(read_row, deeds, text, at)

    def test_how_far_a_renaming_fits(self):
        for deeds, text, at in ((2, "", 0), (2, "a", 1), (2, "a=", 2), (2, "a=a", 3), (2, "a=a ", 4), (2, "a=a b=", 6),
                                (2, "a=a b=b ", 7), (2, "a=a b=bx", 7), (2, "a=1a", 3), (2, "a=a1", 3), (2, "a=a  b=b", 4),
                                (2, "a= b=b", 2), (2, "b=b a=a", 0), (2, "a=c b=b", 2), (2, "a=acb b=b", 3), (1, "a=a b=b", 3),
                                (1, "a=b", 2), (3, "a=a b=b", 7), (2, "A=a b=b", 0), (2, "a==", 2), (2, "a=1 b=11", 7),
                                (2, "a=a\nb=b", 3), (4, "a=d b=c c=b d=", 14)):
            self.check_at(read_renaming, deeds, text, at)

    def test_at_against_all_texts_that_fit(self):
        source = random.Random("at")
        for deeds in range(1, 5):
            for _ in range(400):
                text = "".join(source.choice("aAbBcdD1 x=") for _ in range(source.randint(0, 6)))
                fits = text == "1" or (text and row_begins(deeds, text) and "1" not in text)
                if fits:
                    self.assertEqual(told(read_row(deeds, text)), row_text(deeds, read_row(deeds, text)))
                else:
                    self.check_at(read_row, deeds, text, right_at(lambda part: row_begins(deeds, part), text))

    def test_renamings_at_against_all_texts_that_fit(self):
        source = random.Random("renamings at")
        for deeds in range(1, 5):
            for _ in range(400):
                right = renaming_text(deeds, drawn_renaming(source, deeds, 9))
                place = source.randint(0, len(right))
                text = right[:place] + source.choice(["", "a", "1", " ", "=", "x", "D", "b"])
                text += right[place + source.choice([0, 0, 1]):] if source.random() < 0.8 else ""
                if fits_renaming(deeds, text):
                    try:
                        self.assertIs(is_renaming(deeds, read_renaming(deeds, text)), True)
                    except BadRenaming:
                        pass
                else:
                    at = right_at(lambda part: renaming_begins(deeds, part), text)
                    self.check_at(read_renaming, deeds, text, at)


class RowsTest(unittest.TestCase):
    def test_some(self):
        self.assertEqual(row_text(4, (1, 2, 3, 4, -1, -2, -3, -4)), "abcdABCD")
        self.assertEqual(row_text(2, ()), "1")
        self.assertEqual(row_text(2, (1, 2, -2, -1)), "1")
        self.assertEqual(row_text(2, (1, -1, 2)), "b")
        self.assertEqual(read_row(2, "1"), ())
        self.assertEqual(read_row(2, "abBA"), ())
        self.assertEqual(read_row(2, "aabBb"), (1, 1, 2))

    def test_read_back(self):
        for deeds in (1, 2):
            for row in all_rows(deeds, 4):
                text = row_text(deeds, row)
                self.assertEqual(text, told(afresh(row)))
                self.assertEqual(read_row(deeds, text), afresh(row))
                self.assertEqual(read_row(deeds, told(row)), afresh(row))
        for deeds in (3, 4):
            for row in some_rows(deeds, 60, 200, f"texts {deeds}"):
                self.assertEqual(read_row(deeds, row_text(deeds, row)), afresh(row))
                self.assertEqual(read_row(deeds, told(row)), afresh(row))

    def test_200_signs(self):
        self.assertEqual(read_row(2, "a" * 200), (1,) * 200)
        self.assertEqual(read_row(2, "aA" * 100), ())
        self.assertEqual(row_text(2, (-2,) * 200), "B" * 200)


class RenamingsTest(unittest.TestCase):
    def test_some(self):
        self.assertEqual(renaming_text(2, ((1, -2), (2,))), "a=aB b=b")
        self.assertEqual(read_renaming(2, "a=aB b=b"), ((1, -2), (2,)))
        self.assertEqual(read_renaming(2, "a=abBB b=aAb"), ((1, -2), (2,)))
        self.assertEqual(renaming_text(1, ((-1,),)), "a=A")
        self.assertEqual(renaming_text(4, same(4)), "a=a b=b c=c d=d")

    def test_read_back(self):
        for deeds, images in some_renamings(120, 300, "renaming texts"):
            text = renaming_text(deeds, images)
            right = " ".join(f"{SIGNS[at]}={told(image)}" for at, image in enumerate(images))
            self.assertEqual(text, right)
            self.assertEqual(read_renaming(deeds, text), images)

    def test_many_letters(self):
        for many in (200, 201, 5000):
            images = ((1,) + (2,) * many, (2,))
            self.assertEqual(renaming_text(2, images), "a=a" + "b" * many + " b=b")
            self.assertEqual(read_renaming(2, "a=a" + "b" * many + " b=b"), images)
        self.assertEqual(read_renaming(2, "a=" + "aA" * 3000 + "a b=b"), same(2))

    def test_no_renamings(self):
        for text in ("a=1 b=b", "a=a b=1", "a=1 b=1", "a=a b=a", "a=aa b=b", "a=ab b=ba", "a=aA b=b", "a=abAB b=b"):
            with self.assertRaises(BadRenaming):
                read_renaming(2, text)
        for one, other in itertools.product(all_rows(2, 2), repeat=2):
            images = (afresh(one), afresh(other))
            text = f"a={told(one)} b={told(other)}"
            if is_renaming(2, images):
                self.assertEqual(read_renaming(2, text), images)
            else:
                with self.assertRaises(BadRenaming):
                    read_renaming(2, text)

    def test_returned_rows_are_plain(self):
        source = random.Random("plain images")
        for _ in range(40):
            images = drawn_renaming(source, 3, 20)
            longer = [image[:1] + (2, -2) + image[1:] for image in images]
            found = read_renaming(3, " ".join(f"{SIGNS[at]}={told(image)}" for at, image in enumerate(longer)))
            self.assertEqual(found, images)
            self.assertTrue(all(is_plain(image) for image in found))
            self.assertEqual(size(found), size(images))


if __name__ == "__main__":
    unittest.main()

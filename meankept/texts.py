"""Texts of rows and of renamings, and how they are read."""

from meankept.errors import BadText
from meankept.kinds import MOST_LETTERS, check_deeds, taken_row
from meankept.letters import plain_letters
from meankept.renamings import check_renaming

SIGNS = {1: "a", -1: "A", 2: "b", -2: "B", 3: "c", -3: "C", 4: "d", -4: "D"}
NOTHING = "1"


def letters_by_sign(deeds):
    """Return a dict from the signs of the letters of so many deeds to these letters."""
    return {sign: letter for letter, sign in SIGNS.items() if abs(letter) <= deeds}


def text_of_letters(letters):
    """Return the text of a plain row."""
    return "".join([SIGNS[letter] for letter in letters]) if letters != () else NOTHING


def signs_end(deeds, text, at):
    """Return where the signs of letters, or the text of (), that stand in text from at on, end."""
    if text[at:at + 1] == NOTHING:
        return at + 1
    signs = letters_by_sign(deeds)
    while at < len(text) and text[at] in signs:
        at += 1
    return at


def letters_of_signs(deeds, text):
    """Return the tuple of the letters whose signs text is; it is "1" for none."""
    signs = letters_by_sign(deeds)
    return tuple([signs[sign] for sign in text if sign != NOTHING])


def letters_told(deeds, text):
    """Return the tuple of the letters, plain or not, whose signs text is; raise BadText if it does not fit."""
    if not isinstance(text, str):
        raise BadText(-1)
    end = min(signs_end(deeds, text, 0), MOST_LETTERS)
    if end == 0 or end < len(text):
        raise BadText(end)
    return letters_of_signs(deeds, text)


def text_of_images(images):
    """Return the text of a renaming."""
    return " ".join([f"{SIGNS[at + 1]}={text_of_letters(image)}" for at, image in enumerate(images)])


def images_told(deeds, text):
    """Return the tuple of the plain rows that a text of the form of a renaming tells; raise BadText if it has not."""
    if not isinstance(text, str):
        raise BadText(-1)
    images = []
    at = 0
    for deed in range(1, deeds + 1):
        ahead = f" {SIGNS[deed]}=" if deed > 1 else f"{SIGNS[deed]}="
        for sign in ahead:
            if text[at:at + 1] != sign:
                raise BadText(at)
            at += 1
        end = signs_end(deeds, text, at)
        if end == at:
            raise BadText(at)
        images.append(plain_letters(letters_of_signs(deeds, text[at:end])))
        at = end
    if at < len(text):
        raise BadText(at)
    return tuple(images)


def row_text(deeds, row):
    """Return the text of row."""
    check_deeds(deeds)
    return text_of_letters(taken_row(deeds, row))


def read_row(deeds, text):
    """Return the plain row of the letters whose signs text is."""
    check_deeds(deeds)
    return plain_letters(letters_told(deeds, text))


def renaming_text(deeds, renaming):
    """Return the text of renaming."""
    check_deeds(deeds)
    check_renaming(deeds, renaming)
    return text_of_images(renaming)


def read_renaming(deeds, text):
    """Return the renaming whose text this is, its images plain or not."""
    check_deeds(deeds)
    images = images_told(deeds, text)
    check_renaming(deeds, images)
    return images

"""Deeds and lofts in writing."""

from cupweb.errors import BadText
from cupweb.errors import WebError
from cupweb.loft import Loft
from cupweb.stand import BUNDLE
from cupweb.stand import is_name
from cupweb.web import face_text

DIGITS = "0123456789"
MOST_FIGURES = 30

# What stands behind each deed's word.
FORMS = {
    "begin": ("name",), "drop": ("name",), "forget": ("name",), "put": ("name", "face"), "take": ("name", "face"),
    "finer": ("name", "face"), "lesser": ("name", "face"),
    "keep": ("name", "name", "name", "number", "number", "numbers"),
}

ALL = "all:"
NO_NUMBERS = "-"


def numbers_text(numbers):
    """Numbers in writing."""
    return ",".join([str(number) for number in numbers]) or NO_NUMBERS


def part_text(kind, part):
    """A part of a deed in writing."""
    if kind == "face":
        return face_text(part)
    if kind == "numbers":
        return numbers_text(part)
    return str(part)


def plain_text(deed):
    """A deed that is no bundle, in writing."""
    word, *parts = deed
    return " ".join([word] + [part_text(kind, part) for kind, part in zip(FORMS[word], parts)])


def deed_text(deed):
    """A deed in writing."""
    if deed[0] != BUNDLE:
        return plain_text(deed)
    return ALL + ";".join([" " + deed_text(part) for part in deed[1]])


def read_name(word):
    """The name that a word is."""
    if not is_name(word):
        raise BadText(0)
    return word


def read_number(word):
    """The number, from nought on, that a word is."""
    if not 1 <= len(word) <= MOST_FIGURES or not all([sign in DIGITS for sign in word]):
        raise BadText(0)
    if word[0] == "0" and word != "0":
        raise BadText(0)
    return int(word)


def read_signed(word):
    """The number, also below nought, that a word is."""
    if not word.startswith("-"):
        return read_number(word)
    number = read_number(word[1:])
    if number == 0:
        raise BadText(0)
    return -number


def read_face(word):
    """The tuple of the points of a face in writing."""
    return tuple([read_number(point) for point in word.split(".")])


def read_numbers(word):
    """The tuple of numbers in writing."""
    if word == NO_NUMBERS:
        return ()
    return tuple([read_signed(number) for number in word.split(",")])


READERS = {"name": read_name, "face": read_face, "number": read_number, "numbers": read_numbers}


def read_part(kind, word):
    """What a word is that stands for a part of that kind."""
    reader = READERS[kind]
    return reader(word)


def read_words(words, kinds):
    """The first word, and behind it what the others are; kinds is None where no such first word is known."""
    if kinds is None or len(words) != len(kinds) + 1:
        raise BadText(0)
    return tuple(words[:1] + [read_part(kind, word) for kind, word in zip(kinds, words[1:])])


def read_plain(text):
    """The deed, no bundle, that a text is."""
    words = text.split(" ")
    return read_words(words, FORMS.get(words[0]))


def read_behind_blank(text):
    """The deed that a text is but for the blank ahead of it."""
    if not text.startswith(" "):
        raise BadText(0)
    return read_plain(text[1:])


def deed_of(text):
    """The deed that a text is."""
    if text == ALL:
        return BUNDLE, ()
    if not text.startswith(ALL):
        return read_plain(text)
    return BUNDLE, tuple([read_behind_blank(part) for part in text.removeprefix(ALL).split(";")])


def page(loft):
    """A loft's deeds in writing, a row for each."""
    return "".join([deed_text(deed) + "\n" for deed in loft.deeds()])


def do_row(loft, at, text):
    """Do the deed that the row of that number is."""
    try:
        loft.do(deed_of(text))
    except WebError:
        raise BadText(at) from None


def loft_of(text):
    """The loft that has done the deeds of a page."""
    loft = Loft()
    *rows, last = text.split("\n")
    for at, row in enumerate(rows):
        do_row(loft, at, row)
    if last != "":
        raise BadText(len(rows))
    return loft

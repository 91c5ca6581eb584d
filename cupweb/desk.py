"""A desk that answers lines with texts."""

from cupweb.errors import BadText
from cupweb.errors import WebError
from cupweb.groups import cuts
from cupweb.groups import rings
from cupweb.loft import Loft
from cupweb.pages import deed_of
from cupweb.pages import deed_text
from cupweb.pages import numbers_text
from cupweb.pages import read_words


def listed(things):
    """Things with a blank between, or what is answered where there are none."""
    return " ".join([str(thing) for thing in things]) or "none"


def say_undo(loft):
    """The deed that is taken back."""
    return deed_text(loft.undo())


def say_redo(loft):
    """The deed that is done again."""
    return deed_text(loft.redo())


def say_names(loft):
    """The names of the webs."""
    return listed(loft.names())


def say_rows(loft):
    """The names of the kept rows."""
    return listed(loft.rows())


def say_faces(loft, name):
    """The tops of a web."""
    return str(loft.shape(name))


def say_rings(loft, name, size, rests):
    """The orders of a group of rings."""
    return listed(rings(loft.shape(name), size, rests=rests).orders)


def say_cuts(loft, name, size, rests):
    """The orders of a group of cuts."""
    return listed(cuts(loft.shape(name), size, rests=rests).orders)


def say_numbers(loft, row):
    """A kept row's numbers by the makers."""
    return listed(loft.numbers(row))


def say_times(loft, row, other):
    """The numbers of the product of two kept cuts."""
    return listed(loft.product(row, other))


def say_paper(loft, row):
    """The paper on a kept row."""
    word, numbers, *many = loft.paper(row)
    return " ".join([word, numbers_text(numbers)] + [f"by {number}" for number in many])


ANSWERS = {
    "undo": say_undo, "redo": say_redo, "names": say_names, "rows": say_rows, "faces": say_faces, "rings": say_rings,
    "cuts": say_cuts, "numbers": say_numbers, "times": say_times, "paper": say_paper,
}

# What stands behind each asking's word.
ASKED = {
    "undo": (), "redo": (), "names": (), "rows": (), "faces": ("name",), "rings": ("name", "number", "number"),
    "cuts": ("name", "number", "number"), "numbers": ("name",), "times": ("name", "name"), "paper": ("name",),
}


def answer(loft, words):
    """The answer to what is asked, and not done."""
    word, *parts = words
    say = ANSWERS[word]
    return say(loft, *parts)


def read_line(line):
    """An asking, or a deed, as a tuple of its word and what stands behind it."""
    words = line.split(" ")
    if words[0] in ASKED:
        return read_words(words, ASKED[words[0]])
    return deed_of(line)


class Desk:
    """A desk with a loft of its own."""

    def __init__(self):
        self.loft = Loft()

    def done(self, told):
        """The answer to a line that is read."""
        if told[0] in ASKED:
            return answer(self.loft, told)
        self.loft.do(told)
        return "done"

    def say(self, line):
        """The answer to a line."""
        try:
            told = read_line(line)
        except BadText:
            return "no line"
        try:
            return self.done(told)
        except WebError as refused:
            return f"no {refused.word}"

"""Rows of numbers on a web's faces: their borders and rises."""

from cupweb.errors import BadRow
from cupweb.errors import BadSize
from cupweb.web import GREATEST_SIZE
from cupweb.web import sides
from cupweb.wholes import WHOLE
from cupweb.wholes import refuse_rests
from cupweb.wholes import rested
from cupweb.wholes import timed


def refuse_size(size):
    """Refuse a size that no face has."""
    if not 0 <= size <= GREATEST_SIZE:
        raise BadSize()


def refuse_row(web, size, row, rests):
    """Refuse what is no row of that size for the web, or has rests that are none."""
    refuse_size(size)
    refuse_rests(rests)
    if len(row) != web.many(size):
        raise BadRow()


def side_signs(face):
    """A dict of the signs of a face's sides: 1 at even places, -1 at odd ones."""
    return {side: -1 if at & 1 else 1 for at, side in enumerate(sides(face))}


def spread(row, shares, web, size):
    """The row of a web's faces of a size to which a row goes; each of its faces goes to (face, sign) as in shares."""
    told = [0] * web.many(size)
    for number, going in zip(row, shares):
        for face, sign in going:
            told[web.place(face)] += sign * number
    return told


def gathered(row, shares, web):
    """The row of the numbers that a row on a web's faces has, by their signs, at what each face goes to in shares."""
    return [sum([sign * row[web.place(face)] for face, sign in going]) for going in shares]


def border_table(web, size):
    """The table that with a row of that size, line by line, is its border."""
    signs = [side_signs(face) for face in web.faces(size)]
    return [[known.get(side, 0) for known in signs] for side in web.faces(size - 1)]


def rise_table(web, size):
    """The table that with a row of that size, line by line, is its rise."""
    signs = [side_signs(face) for face in web.faces(size + 1)]
    faces = web.faces(size)
    return [[known.get(side, 0) for side in faces] for known in signs]


def border(web, size, row, *, rests=WHOLE):
    """The row of the next lesser size on which the row borders."""
    refuse_row(web, size, row, rests)
    return rested(timed(border_table(web, size), row), rests)


def rise(web, size, row, *, rests=WHOLE):
    """The row of the next greater size to which the row rises."""
    refuse_row(web, size, row, rests)
    return rested(timed(rise_table(web, size), row), rests)


def is_ring(web, size, row, *, rests=WHOLE):
    """True where the row's border is nought throughout."""
    return not any(border(web, size, row, rests=rests))


def is_cut(web, size, row, *, rests=WHOLE):
    """True where the row's rise is nought throughout."""
    return not any(rise(web, size, row, rests=rests))

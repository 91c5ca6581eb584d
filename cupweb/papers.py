"""Papers on rows: by which row a row is filled or raised, or what bars this."""

from cupweb.rows import border_table
from cupweb.rows import refuse_row
from cupweb.rows import rise_table
from cupweb.solving import judged
from cupweb.solving import solved
from cupweb.wholes import WHOLE


def filled(web, size, row, *, rests=WHOLE):
    """The paper of a row of the next greater size that borders on the row."""
    refuse_row(web, size, row, rests)
    return solved(border_table(web, size + 1), web.many(size + 1), row, rests=rests)


def raised(web, size, row, *, rests=WHOLE):
    """The paper of a row of the next lesser size that rises to the row."""
    refuse_row(web, size, row, rests)
    return solved(rise_table(web, size - 1), web.many(size - 1), row, rests=rests)


def shows_filled(web, size, row, told, *, rests=WHOLE):
    """True where what is told is a paper on the row's being filled."""
    refuse_row(web, size, row, rests)
    return judged(border_table(web, size + 1), web.many(size + 1), row, told, rests=rests)


def shows_raised(web, size, row, told, *, rests=WHOLE):
    """True where what is told is a paper on the row's being raised."""
    refuse_row(web, size, row, rests)
    return judged(rise_table(web, size - 1), web.many(size - 1), row, told, rests=rests)

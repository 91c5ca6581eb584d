"""Wishes for a table: numbers by which its lines sum up to the wish, or what bars such numbers."""

from cupweb.forms import Form
from cupweb.wholes import WHOLE
from cupweb.wholes import paired
from cupweb.wholes import refuse_rests
from cupweb.wholes import rest
from cupweb.wholes import rested
from cupweb.wholes import share
from cupweb.wholes import timed


def is_multiple(number, many):
    """True where the number is a multiple of many, of 0 where it is 0 alone."""
    # Rests by 0 are the whole number itself, which is just what a multiple of 0 asks for.
    return rest(number, many) == 0


def barred(line, both, rests):
    """The paper of a line that sums up with each column to multiples of both, and with the wish does not."""
    if rests == WHOLE:
        return "barred", rested(line, both), both
    times = rests // both
    return "barred", rested([times * number for number in line], rests), rests


def solved(table, wide, wish, *, rests=WHOLE):
    """("found", numbers) by which each line sums up to the wish, or ("barred", numbers, many)."""
    refuse_rests(rests)
    form = Form(table, wide)
    numbers = [0] * wide
    for at, wished in enumerate(timed(form.left, wish)):
        # The step's multiples are, by rests, those of both; for whole numbers both is the step itself.
        both, by, more = share(form.step(at), rests)
        if not is_multiple(wished, both):
            return barred(form.left[at], both, rests)
        if at < len(form.steps):
            numbers[at] = by * (wished // both)
    return "found", rested(timed(form.right, numbers), rests)


def is_found(table, wide, wish, numbers, rests):
    """True where the lines sum up by the numbers to the wish."""
    if len(numbers) != wide:
        return False
    return rested(timed(table, numbers), rests) == rested(wish, rests)


def may_bar(many, rests):
    """True where a paper that bars may have that many."""
    if rests == WHOLE:
        return many == 0 or many >= 2
    return many == rests


def is_barred(table, wide, wish, numbers, many, rests):
    """True where the numbers sum up with each column to a multiple of many, and with the wish do not."""
    if len(numbers) != len(table) or not may_bar(many, rests):
        return False
    columns = [[line[at] for line in table] for at in range(wide)]
    if not all([is_multiple(paired(numbers, column), many) for column in columns]):
        return False
    return not is_multiple(paired(numbers, wish), many)


def judged(table, wide, wish, told, *, rests=WHOLE):
    """True where what is told is a paper for the wish, of either form."""
    refuse_rests(rests)
    if len(told) == 2 and told[0] == "found":
        return is_found(table, wide, wish, told[1], rests)
    if len(told) == 3 and told[0] == "barred":
        return is_barred(table, wide, wish, told[1], told[2], rests)
    return False

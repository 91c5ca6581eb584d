"""Whole numbers and rests, and sums of products over lists of them."""

from cupweb.errors import BadRests

# Rests of this number mean whole numbers: nothing is taken off them.
WHOLE = 0

LEAST_RESTS = 2
GREATEST_RESTS = 60


def refuse_rests(rests):
    """Refuse rests that are none, for those who must: `rest` and `rested` take any."""
    if rests != WHOLE and not LEAST_RESTS <= rests <= GREATEST_RESTS:
        raise BadRests()


def rest(number, rests=WHOLE):
    """The number itself where rests is WHOLE, else its rest, from 0 to one less than the rests."""
    if rests == WHOLE:
        return number
    return number % rests


def rested(row, rests=WHOLE):
    """A new list of the rests of a row's numbers."""
    return [rest(number, rests) for number in row]


def share(one, other):
    """(both, by, more): the greatest divisor, not below nought, which is by * one + more * other."""
    both, after = one, other
    by, by_after = 1, 0
    more, more_after = 0, 1
    while after != 0:
        times = both // after
        both, after = after, both - times * after
        by, by_after = by_after, by - times * by_after
        more, more_after = more_after, more - times * more_after
    if both < 0:
        return -both, -by, -more
    return both, by, more


def paired(one, other):
    """The sum of the products of two lists alike long."""
    return sum([number * more for number, more in zip(one, other)])


def timed(table, row):
    """A new list: for each line of the table its sum of products with the row."""
    return [paired(line, row) for line in table]

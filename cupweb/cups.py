"""Products of rows, rows capped by rows, and what products of cuts come to."""

from cupweb.errors import BadRests
from cupweb.errors import BadSize
from cupweb.errors import NotShut
from cupweb.groups import cuts
from cupweb.papers import raised
from cupweb.rows import is_cut
from cupweb.rows import refuse_row
from cupweb.rows import refuse_size
from cupweb.rows import rise
from cupweb.web import GREATEST_SIZE
from cupweb.wholes import WHOLE
from cupweb.wholes import rested


def front(face, size):
    """The face of that size at the front of a growing face."""
    return face[:size + 1]


def back(face, size):
    """The face of that size at the back of a growing face."""
    return face[len(face) - size - 1:]


def numbers_by_faces(web, size, row):
    """A dict of the row's number at each face."""
    return {face: number for face, number in zip(web.faces(size), row)}


def refuse_rows(web, size, row, high, other, rests):
    """Refuse two rows as point 4 says: the first one is looked at whole ahead of the second."""
    refuse_row(web, size, row, rests)
    refuse_row(web, high, other, rests)


def refuse_open(web, size, row, rests):
    """Refuse as point 4 says, then a row that is no cut."""
    if not is_cut(web, size, row, rests=rests):
        raise NotShut()


def cup(web, size, row, high, other, *, rests=WHOLE):
    """The product of two rows: at each face the first one's number at the front by the second one's at the back."""
    refuse_rows(web, size, row, high, other, rests)
    ahead = numbers_by_faces(web, size, row)
    behind = numbers_by_faces(web, high, other)
    faces = web.faces(size + high)
    return rested([ahead[front(face, size)] * behind[back(face, high)] for face in faces], rests)


def cap(web, size, row, low, cut, *, rests=WHOLE):
    """The row capped by a row of a size no greater: sums over the faces whose back a face is."""
    refuse_rows(web, size, row, low, cut, rests)
    if low > size:
        raise BadSize()
    ahead = numbers_by_faces(web, low, cut)
    sums = {face: 0 for face in web.faces(size - low)}
    for face, number in zip(web.faces(size), row):
        sums[back(face, size - low)] += number * ahead[front(face, low)]
    return rested(list(sums.values()), rests)


def exchanged(web, size, row, high, other, *, rests=WHOLE):
    """A row that rises to what the product of two cuts is more than the one the other way about, up to the sign."""
    refuse_rows(web, size, row, high, other, rests)
    refuse_open(web, size, row, rests)
    refuse_open(web, high, other, rests)
    # There both products are empty, but the row may have faces to stand on.
    if size + high > GREATEST_SIZE:
        return [0] * web.many(size + high - 1)
    sign = -1 if size & high & 1 else 1
    one = cup(web, size, row, high, other, rests=rests)
    turned = cup(web, high, other, size, row, rests=rests)
    more = [number - sign * less for number, less in zip(one, turned)]
    # Found it always is: the two products of cuts differ by a rise alone.
    return raised(web, size + high, more, rests=rests)[1]


def product_numbers(web, size, row, high, other, group, rests):
    """The numbers of the product of two cuts by the makers of the group of the sum's size."""
    return group.coordinates(cup(web, size, row, high, other, rests=rests))


def products(web, size, high, *, rests=WHOLE):
    """For each maker of cuts of size, for each one of cuts of high, the product's numbers."""
    # Both groups refuse in the order that point 4 tells for two sizes without rows.
    makers = cuts(web, size, rests=rests).makers
    others = cuts(web, high, rests=rests).makers
    if size + high > GREATEST_SIZE:
        return [[[] for other in others] for maker in makers]
    group = cuts(web, size + high, rests=rests)
    return [[product_numbers(web, size, maker, high, other, group, rests) for other in others] for maker in makers]


def stepped(web, size, row, *, rests):
    """The whole cut that, the rests times, is the rise of a cut by rests."""
    refuse_size(size)
    if rests == WHOLE:
        raise BadRests()
    refuse_open(web, size, row, rests)
    return [number // rests for number in rise(web, size, rested(row, rests))]

"""Groups of rings and of cuts: makers of which each row is a sum, but for a border or a rise."""

from cupweb.errors import BadRow
from cupweb.errors import NotShut
from cupweb.forms import Form
from cupweb.rows import border_table
from cupweb.rows import refuse_size
from cupweb.rows import rise_table
from cupweb.solving import is_multiple
from cupweb.wholes import WHOLE
from cupweb.wholes import refuse_rests
from cupweb.wholes import rest
from cupweb.wholes import rested
from cupweb.wholes import share
from cupweb.wholes import timed


def stride(step, rests):
    """The number of which just the multiples, by the step, are nought by rests."""
    if step == 0:
        return 1
    return rests // share(step, rests)[0]


def column(table, at):
    """The column of a table at a place."""
    return [line[at] for line in table]


def times_table(table, other, wide):
    """The lines of a table by the columns of another one so wide."""
    columns = [column(other, at) for at in range(wide)]
    return [timed(columns, line) for line in table]


def bound_columns(bounds, line):
    """A line of the table that has the bounds on its slope, without the columns of those that are 0."""
    return [bound if at == line else 0 for at, bound in enumerate(bounds) if bound != 0]


class Shut:
    """The shut rows of a table, those by which all its lines sum up to nought: their free numbers."""

    def __init__(self, table, wide, rests):
        form = Form(table, wide)
        self.unturned = form.unright
        self.strides = [stride(form.step(at), rests) for at in range(wide)]
        # A turned number that is nought in every shut row tells nothing.
        self.kept = [at for at in range(wide) if not is_multiple(self.strides[at], rests)]
        self.bounds = [rests // self.strides[at] for at in self.kept]
        self.base = [[line[at] * self.strides[at] for at in self.kept] for line in form.right]

    def free_numbers(self, row):
        """The numbers by which the row is a sum of the base's columns."""
        turned = timed(self.unturned, row)
        if not all([is_multiple(number, by) for number, by in zip(turned, self.strides)]):
            raise NotShut()
        return [turned[at] // self.strides[at] for at in self.kept]

    def free_table(self, table, wide):
        """The free numbers of a table's columns, each of which is shut in whole numbers, with the bounds by rests."""
        lines = times_table([self.unturned[at] for at in self.kept], table, wide)
        # Such a column's turned numbers are nought where a stride isn't 1, so there is nothing to part by it.
        bounded = list(zip(lines, self.bounds))
        return [rested(line, bound) + bound_columns(self.bounds, at) for at, (line, bound) in enumerate(bounded)]


class Group:
    """The rows that one table shuts, but for the columns of another one so wide."""

    def __init__(self, closing, opening, wide, rests):
        shut = Shut(closing, len(opening), rests)
        free = shut.free_table(opening, wide)
        form = Form(free, len(free[0]) if free else 0)
        told = [at for at in range(len(free)) if form.step(at) != 1]
        self.rests = rests
        self.shut = shut
        self.turning = [form.left[at] for at in told]
        # Tuples of its own, so that the lists that are looked at are not what the group reads.
        self.own_orders = tuple([form.step(at) for at in told])
        self.own_makers = tuple([tuple(rested(timed(shut.base, column(form.unleft, at)), rests)) for at in told])
        self.length = len(opening)
        self.orders = list(self.own_orders)
        self.makers = [list(maker) for maker in self.own_makers]

    def coordinates(self, row):
        """The numbers of a shut row by the makers."""
        if len(row) != self.length:
            raise BadRow()
        turned = timed(self.turning, self.shut.free_numbers(row))
        return [rest(number, order) for number, order in zip(turned, self.own_orders)]

    def together(self, numbers):
        """The row that has so many times each maker, summed."""
        if len(numbers) != len(self.own_makers):
            raise BadRow()
        sums = [0] * self.length
        for number, maker in zip(numbers, self.own_makers):
            sums = [told + number * more for told, more in zip(sums, maker)]
        return rested(sums, self.rests)

    def __eq__(self, other):
        return isinstance(other, Group) and self.own_orders == other.own_orders

    def __len__(self):
        return len(self.own_makers)

    def __repr__(self):
        return f"Group({list(self.own_orders)})"


def rings(web, size, *, rests=WHOLE):
    """The group of the rings of a size, but for borders."""
    refuse_size(size)
    refuse_rests(rests)
    return Group(border_table(web, size), border_table(web, size + 1), web.many(size + 1), rests)


def cuts(web, size, *, rests=WHOLE):
    """The group of the cuts of a size, but for rises."""
    refuse_size(size)
    refuse_rests(rests)
    return Group(rise_table(web, size), rise_table(web, size - 1), web.many(size - 1), rests)

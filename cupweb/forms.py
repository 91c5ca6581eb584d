"""The form of a table: steps on its slope, and the turnings that bring it there."""


def slope_table(wide):
    """The table with 1 on the slope and 0 elsewhere."""
    return [[1 if line == column else 0 for column in range(wide)] for line in range(wide)]


def flipped(table):
    """A square table with its lines as columns."""
    return [list(column) for column in zip(*table)]


def with_more(line, other, times):
    """A line with so many times another one added."""
    return [number + times * more for number, more in zip(line, other)]


def exchange(table, one, other):
    """Exchange two lines of the table itself."""
    table[one], table[other] = table[other], table[one]


class Turning:
    """A table's body, turned by steps that can be undone.

    `left` times the table handed in, times `right`, is the body; `unleft` and `unright` undo both. So that
    each step works on whole lines, `right` and `unleft` are held flipped.
    """

    def __init__(self, table, wide):
        self.body = [list(line) for line in table]
        self.wide = wide
        self.left = slope_table(len(table))
        self.unleft_flipped = slope_table(len(table))
        self.right_flipped = slope_table(wide)
        self.unright = slope_table(wide)

    def add_line(self, to, source, times):
        """Add so many times the source line to another one."""
        if times == 0:
            return
        self.body[to] = with_more(self.body[to], self.body[source], times)
        self.left[to] = with_more(self.left[to], self.left[source], times)
        # Undoing goes the other way about: what came to a line is taken back from the source's column.
        self.unleft_flipped[source] = with_more(self.unleft_flipped[source], self.unleft_flipped[to], -times)

    def add_column(self, to, source, times):
        """Add so many times the source column to another one."""
        if times == 0:
            return
        for at in range(len(self.body)):
            self.body[at][to] += times * self.body[at][source]
        self.right_flipped[to] = with_more(self.right_flipped[to], self.right_flipped[source], times)
        self.unright[source] = with_more(self.unright[source], self.unright[to], -times)

    def exchange_lines(self, one, other):
        """Exchange two lines."""
        exchange(self.body, one, other)
        exchange(self.left, one, other)
        exchange(self.unleft_flipped, one, other)

    def exchange_columns(self, one, other):
        """Exchange two columns."""
        for at in range(len(self.body)):
            exchange(self.body[at], one, other)
        exchange(self.right_flipped, one, other)
        exchange(self.unright, one, other)

    def turn_line(self, at):
        """Turn the sign of a line."""
        self.body[at] = [-number for number in self.body[at]]
        self.left[at] = [-number for number in self.left[at]]
        self.unleft_flipped[at] = [-number for number in self.unleft_flipped[at]]


def least_place(body, at):
    """(line, column) of a least number that isn't nought, from line and column `at` on, or None."""
    least = 0
    place = None
    for line in range(at, len(body)):
        for column in range(at, len(body[line])):
            bulk = abs(body[line][column])
            # The numbers grow least where a least one is taken, and none is less than 1.
            if bulk == 1:
                return line, column
            if bulk != 0 and (place is None or bulk < least):
                least = bulk
                place = (line, column)
    return place


def bring_least(work, at):
    """Bring a least number to the slope, above nought; False where there is none but noughts."""
    place = least_place(work.body, at)
    if place is None:
        return False
    line, column = place
    work.exchange_lines(at, line)
    work.exchange_columns(at, column)
    if work.body[at][at] < 0:
        work.turn_line(at)
    return True


def nearest(number, step):
    """How many times a step above nought comes nearest to the number."""
    return (2 * number + step) // (2 * step)


def clear_cross(work, at):
    """Take the slope's number as often as may be off its column and line; True where all is nought then."""
    step = work.body[at][at]
    for line in range(at + 1, len(work.body)):
        work.add_line(line, at, -nearest(work.body[line][at], step))
    for column in range(at + 1, work.wide):
        work.add_column(column, at, -nearest(work.body[at][column], step))
    below = [work.body[line][at] for line in range(at + 1, len(work.body))]
    return not any(below) and not any(work.body[at][at + 1:])


def barring_line(work, at):
    """The first line behind the slope's number that has a number it does not divide, or None."""
    step = work.body[at][at]
    for line in range(at + 1, len(work.body)):
        if any([number % step for number in work.body[line]]):
            return line
    return None


def settle(work):
    """Turn the body into its form; tells how many steps it has."""
    at = 0
    while bring_least(work, at):
        if not clear_cross(work, at):
            continue
        barring = barring_line(work, at)
        if barring is None:
            at += 1
        else:
            # The next clearing leaves a lesser number then, which is brought to the slope.
            work.add_line(at, barring, 1)
    return at


class Form:
    """The form of a table so wide: left by the table by right has the steps on the slope, else nought."""

    def __init__(self, table, wide):
        work = Turning(table, wide)
        many = settle(work)
        # A tuple of its own, so that the list that is looked at is not what `step` reads.
        self.slope = tuple([work.body[at][at] for at in range(many)])
        self.steps = list(self.slope)
        self.left = work.left
        self.unleft = flipped(work.unleft_flipped)
        self.right = flipped(work.right_flipped)
        self.unright = work.unright

    def step(self, at):
        """The step at a place from 0, 0 where there is none."""
        if 0 <= at < len(self.slope):
            return self.slope[at]
        return 0

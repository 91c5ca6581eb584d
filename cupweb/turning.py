"""A table that is being turned, with all that was done to its lines and columns."""


def slope_table(wide):
    """The table with 1 on the slope and 0 elsewhere."""
    return [[1 if line == column else 0 for column in range(wide)] for line in range(wide)]


def flipped(table):
    """A square table with its lines as columns."""
    return [list(column) for column in zip(*table)]


def with_more(line, other, times):
    """A line with so many times another one added."""
    return [number + times * more for number, more in zip(line, other)]


def exchange(table, one, other):
    """Exchange two lines of the table itself."""
    table[one], table[other] = table[other], table[one]


class Turning:
    """A table's body, turned by steps that can be undone.

    `left` times the table handed in, times `right`, is the body; `unleft` and `unright` undo both. So that
    each step works on whole lines, `right` and `unleft` are held flipped.
    """

    def __init__(self, table, wide):
        self.body = [list(line) for line in table]
        self.wide = wide
        self.left = slope_table(len(table))
        self.unleft_flipped = slope_table(len(table))
        self.right_flipped = slope_table(wide)
        self.unright = slope_table(wide)

    def add_line(self, to, source, times):
        """Add so many times the source line to another one."""
        if times == 0:
            return
        self.body[to] = with_more(self.body[to], self.body[source], times)
        self.left[to] = with_more(self.left[to], self.left[source], times)
        # Undoing goes the other way about: what came to a line is taken back from the source's column.
        self.unleft_flipped[source] = with_more(self.unleft_flipped[source], self.unleft_flipped[to], -times)

    def add_column(self, to, source, times):
        """Add so many times the source column to another one."""
        if times == 0:
            return
        for at in range(len(self.body)):
            self.body[at][to] += times * self.body[at][source]
        self.right_flipped[to] = with_more(self.right_flipped[to], self.right_flipped[source], times)
        self.unright[source] = with_more(self.unright[source], self.unright[to], -times)

    def exchange_lines(self, one, other):
        """Exchange two lines."""
        exchange(self.body, one, other)
        exchange(self.left, one, other)
        exchange(self.unleft_flipped, one, other)

    def exchange_columns(self, one, other):
        """Exchange two columns."""
        for at in range(len(self.body)):
            exchange(self.body[at], one, other)
        exchange(self.right_flipped, one, other)
        exchange(self.unright, one, other)

    def turn_line(self, at):
        """Turn the sign of a line."""
        self.body[at] = [-number for number in self.body[at]]
        self.left[at] = [-number for number in self.left[at]]
        self.unleft_flipped[at] = [-number for number in self.unleft_flipped[at]]

"""The form of a table: steps on its slope, and the turnings that bring it there."""

from cupweb.turning import Turning
from cupweb.turning import flipped


def least_place(body, at):
    """(line, column) of a least number that isn't nought, from line and column `at` on, or None."""
    least = 0
    place = None
    for line in range(at, len(body)):
        for column in range(at, len(body[line])):
            bulk = abs(body[line][column])
            # The numbers grow least where a least one is taken, and none is less than 1.
            if bulk == 1:
                return line, column
            if bulk != 0 and (place is None or bulk < least):
                least = bulk
                place = (line, column)
    return place


def bring_least(work, at):
    """Bring a least number to the slope, above nought; False where there is none but noughts."""
    place = least_place(work.body, at)
    if place is None:
        return False
    line, column = place
    work.exchange_lines(at, line)
    work.exchange_columns(at, column)
    if work.body[at][at] < 0:
        work.turn_line(at)
    return True


def nearest(number, step):
    """How many times a step above nought comes nearest to the number."""
    return (2 * number + step) // (2 * step)


def clear_cross(work, at):
    """Take the slope's number as often as may be off its column and line; True where all is nought then."""
    step = work.body[at][at]
    for line in range(at + 1, len(work.body)):
        work.add_line(line, at, -nearest(work.body[line][at], step))
    for column in range(at + 1, work.wide):
        work.add_column(column, at, -nearest(work.body[at][column], step))
    below = [work.body[line][at] for line in range(at + 1, len(work.body))]
    return not any(below) and not any(work.body[at][at + 1:])


def barring_line(work, at):
    """The first line behind the slope's number that has a number it does not divide, or None."""
    step = work.body[at][at]
    for line in range(at + 1, len(work.body)):
        if any([number % step for number in work.body[line]]):
            return line
    return None


def settle(work):
    """Turn the body into its form; tells how many steps it has."""
    at = 0
    while bring_least(work, at):
        if not clear_cross(work, at):
            continue
        barring = barring_line(work, at)
        if barring is None:
            at += 1
        else:
            # The next clearing leaves a lesser number then, which is brought to the slope.
            work.add_line(at, barring, 1)
    return at


class Form:
    """The form of a table so wide: left by the table by right has the steps on the slope, else nought."""

    def __init__(self, table, wide):
        work = Turning(table, wide)
        many = settle(work)
        # A tuple of its own, so that the list that is looked at is not what `step` reads.
        self.slope = tuple([work.body[at][at] for at in range(many)])
        self.steps = list(self.slope)
        self.left = work.left
        self.unleft = flipped(work.unleft_flipped)
        self.right = flipped(work.right_flipped)
        self.unright = work.unright

    def step(self, at):
        """The step at a place from 0, 0 where there is none."""
        if 0 <= at < len(self.slope):
            return self.slope[at]
        return 0

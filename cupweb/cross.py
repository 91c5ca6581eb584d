"""Webs multiplied, put beside one another, and coned."""

from cupweb.errors import BadSize
from cupweb.errors import Full
from cupweb.maps import Map
from cupweb.rows import refuse_row
from cupweb.rows import spread
from cupweb.web import GREATEST_SIZE
from cupweb.web import POINTS
from cupweb.web import Web
from cupweb.wholes import WHOLE
from cupweb.wholes import rested


def signed_ways(size, high):
    """The ways from the places (0, 0) to (size, high), one step in one place at a time, as (way, sign)."""
    if size == 0 and high == 0:
        return [(((0, 0),), 1)]
    told = []
    if size > 0:
        # A last step in the first place comes later than each of the steps in the second one.
        sign = -1 if high & 1 else 1
        told.extend([(way + ((size, high),), sign * turned) for way, turned in signed_ways(size - 1, high)])
    if high > 0:
        told.extend([(way + ((size, high),), turned) for way, turned in signed_ways(size, high - 1)])
    return told


def point_pairs(one, other):
    """The pairs of a point of one web and a point of another one, in order."""
    return [low + high for low in one.faces(0) for high in other.faces(0)]


def nought_table(lines, wide):
    """A table of noughts."""
    return [[0] * wide for line in range(lines)]


class Cross:
    """Two webs multiplied: the points of what is made are the pairs of points."""

    def __init__(self, one, other):
        if one.size() + other.size() > GREATEST_SIZE:
            raise BadSize()
        pairs = point_pairs(one, other)
        if len(pairs) > POINTS:
            raise Full()
        self.one = one
        self.other = other
        self.pairs = pairs
        # A dict of its own, so that the list that is looked at is not what the ways are read by.
        self.places = {pair: at for at, pair in enumerate(pairs)}
        ways = [self.signed_faces(low, high) for low in one.tops() for high in other.tops()]
        self.made = Web([face for signed in ways for face, sign in signed])
        self.first = Map(self.made, one, [(at, pair[0]) for pair, at in self.places.items()])
        self.second = Map(self.made, other, [(at, pair[1]) for pair, at in self.places.items()])

    def signed_faces(self, low, high):
        """The faces of both faces' ways, as (face, sign)."""
        told = []
        for way, sign in signed_ways(len(low) - 1, len(high) - 1):
            told.append((tuple([self.places[(low[at], high[place])] for at, place in way]), sign))
        return told

    def across(self, size, row, high, more, *, rests=WHOLE):
        """The product of a row of the first web's faces and a row of the second one's."""
        refuse_row(self.one, size, row, rests)
        refuse_row(self.other, high, more, rests)
        shares = [self.signed_faces(face, over) for face in self.one.faces(size) for over in self.other.faces(high)]
        numbers = [number * times for number in row for times in more]
        return rested(spread(numbers, shares, self.made, size + high), rests)

    def apart(self, size, row, *, rests=WHOLE):
        """For each size from 0 on the table of a row's numbers by faces of that size and of what is left."""
        refuse_row(self.made, size, row, rests)
        return [[rested(line, rests) for line in self.part(size, row, at)] for at in range(size + 1)]

    def part(self, size, row, at):
        """The table by first faces of the size `at`, in whole numbers."""
        table = nought_table(self.one.many(at), self.other.many(size - at))
        for face, number in zip(self.made.faces(size), row):
            front = self.first.led(face[:at + 1])
            back = self.second.led(face[at:])
            # Places that come together are no face.
            if self.one.has(front) and self.other.has(back):
                table[self.one.place(front)][self.other.place(back)] += number
        return table


def beside(one, other):
    """(a web of both, the second one's points raised, by how much they are)."""
    by = max([face[0] + 1 for face in one.faces(0)], default=0)
    raised = [tuple([point + by for point in face]) for face in other.tops()]
    if not all([point < POINTS for face in raised for point in face]):
        raise Full()
    return Web(one.tops() + raised), by


def coned(web):
    """(a web that has with each face that face and one point more, the point)."""
    if web.size() == GREATEST_SIZE:
        raise BadSize()
    point = web.fresh()
    if point is None:
        raise Full()
    return Web([(point,)] + [face + (point,) for face in web.tops()]), point

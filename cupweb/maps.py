"""Maps between webs: they lead points to points, and each face to a face."""

from cupweb.errors import BadMap
from cupweb.errors import NoFace
from cupweb.errors import NotFace
from cupweb.errors import NotNear
from cupweb.errors import Unlike
from cupweb.rows import gathered
from cupweb.rows import refuse_row
from cupweb.rows import spread
from cupweb.web import GREATEST_SIZE
from cupweb.web import order_sign
from cupweb.wholes import WHOLE
from cupweb.wholes import rested


def faces_by_sizes(web):
    """All faces of a web, by sizes and in order."""
    told = []
    for size in range(GREATEST_SIZE + 1):
        told.extend(web.faces(size))
    return told


def led_points(one, other, pairs):
    """A dict of the point to which each point of one is led."""
    leads = {}
    for point, led in pairs:
        if point in leads or not one.has((point,)) or not other.has((led,)):
            raise BadMap()
        leads[point] = led
    if len(leads) != one.many(0):
        raise BadMap()
    return leads


def each_once(points):
    """The points in growing order, each once."""
    return tuple(sorted(set(points)))


def signed(points, sign):
    """What a face goes to by its led points and a sign: nothing where two of them are alike."""
    turned = sign * order_sign(points)
    return [(each_once(points), turned)] if turned else []


class Map:
    """A map of one web to another one, by pairs of a point and the one to which it is led."""

    def __init__(self, one, other, pairs):
        self.one = one
        self.other = other
        self.leads = led_points(one, other, pairs)
        for at, face in enumerate(faces_by_sizes(one)):
            if not other.has(self.image(face)):
                raise NotFace(at)

    def led(self, points):
        """The led points, in the order of the points."""
        return tuple([self.leads[point] for point in points])

    def image(self, face):
        """The face of the led points, each once."""
        if not all([point in self.leads for point in face]):
            raise NoFace()
        return each_once(self.led(face))

    def shares(self, size):
        """For each face of a size what it goes to: a list of one (face, sign), or of none."""
        return [signed(self.led(face), 1) for face in self.one.faces(size)]

    def forth(self, size, row, *, rests=WHOLE):
        """A row of faces led forth."""
        refuse_row(self.one, size, row, rests)
        return rested(spread(row, self.shares(size), self.other, size), rests)

    def back(self, size, row, *, rests=WHOLE):
        """A row on the other web's faces led back."""
        refuse_row(self.other, size, row, rests)
        return rested(gathered(row, self.shares(size), self.other), rests)

    def then(self, later):
        """The map that leads as this one and then as the later one."""
        if later.one != self.other:
            raise Unlike()
        pairs = [(point, later.leads[led]) for point, led in self.leads.items()]
        return Map(self.one, later.other, pairs)

    def keeps_order(self):
        """True where of two points of a stretch the lesser one is never led beyond the greater one's place."""
        return all([self.leads[low] <= self.leads[high] for low, high in self.one.faces(1)])

    def near(self, other):
        """True where the points to which both maps lead a face are always a face together."""
        if self.one != other.one or self.other != other.other:
            return False
        faces = faces_by_sizes(self.one)
        return all([self.other.has(each_once(self.led(face) + other.led(face))) for face in faces])

    def shares_between(self, other, face):
        """What the face goes to between this map and another one, as (face, sign)."""
        told = []
        for at in range(len(face)):
            points = self.led(face[:at + 1]) + other.led(face[at:])
            told.extend(signed(points, -1 if at & 1 else 1))
        return told

    def between(self, other, size, row, *, rests=WHOLE):
        """The row between this map and a near one for a row."""
        refuse_row(self.one, size, row, rests)
        if not self.near(other):
            raise NotNear()
        shares = [self.shares_between(other, face) for face in self.one.faces(size)]
        return rested(spread(row, shares, self.other, size + 1), rests)

    def __eq__(self, other):
        return (
            isinstance(other, Map) and self.one == other.one and self.other == other.other
            and self.leads == other.leads
        )


def stays(web):
    """The map that leaves each point of a web where it is."""
    return Map(web, web, [face + face for face in web.faces(0)])

"""Steps that make a web finer or lesser, and take its rows along."""

from cupweb.errors import BadSize
from cupweb.errors import Full
from cupweb.errors import NoFace
from cupweb.errors import NotFree
from cupweb.maps import Map
from cupweb.rows import gathered
from cupweb.rows import refuse_row
from cupweb.rows import side_signs
from cupweb.rows import spread
from cupweb.web import Web
from cupweb.web import growing
from cupweb.web import order_sign
from cupweb.wholes import WHOLE
from cupweb.wholes import rested


def home_map(later, elder, moved):
    """The map of the later web to the elder one that leads the points of moved as it tells, and leaves all else."""
    points = [face[0] for face in later.faces(0)]
    return Map(later, elder, [(point, moved.get(point, point)) for point in points])


class Step:
    """A step from an elder web to a later one; gone has what each face that does not stay goes over to."""

    def __init__(self, elder, later, home, gone):
        self.elder = elder
        self.later = later
        self.home = home
        self.gone = gone

    def shares(self, size):
        """For each elder face of a size what it goes over to, as (face, sign)."""
        return [self.gone.get(face, [(face, 1)]) for face in self.elder.faces(size)]

    def forth(self, size, row, *, rests=WHOLE):
        """The row of later faces to which a row of elder faces goes over."""
        refuse_row(self.elder, size, row, rests)
        return rested(spread(row, self.shares(size), self.later, size), rests)

    def back(self, size, row, *, rests=WHOLE):
        """The row of sums, at each elder face, of the numbers of a row on later faces at what it goes over to."""
        refuse_row(self.later, size, row, rests)
        return rested(gathered(row, self.shares(size), self.later), rests)


def refuse_missing(web, face):
    """Refuse a face that the web has not."""
    if not web.has(face):
        raise NoFace()


def replaced(face, told, fresh):
    """The faces in which one of the told one's points is exchanged for the fresh one, as (face, sign)."""
    shares = []
    for point in told:
        exchanged = tuple([fresh if other == point else other for other in face])
        shares.append((growing(exchanged), order_sign(exchanged)))
    return shares


def finer(web, face):
    """The step that brings a fresh point into a face of size 1 or more."""
    refuse_missing(web, face)
    if len(face) == 1:
        raise BadSize()
    fresh = web.fresh()
    if fresh is None:
        raise Full()
    gone = {other: replaced(other, face, fresh) for other in web.around(face)}
    faces = [other for other in web.places if other not in gone]
    for shares in gone.values():
        faces.extend([other for other, sign in shares])
    later = Web(faces)
    return Step(web, later, home_map(later, web, {fresh: min(face)}), gone)


def is_free(web, face):
    """True where the face lies in just one other one."""
    return len(web.around(face)) == 2


def lesser(web, face):
    """The step that takes away a free face and the one in which it lies."""
    refuse_missing(web, face)
    if not is_free(web, face):
        raise NotFree()
    free = growing(face)
    greater = [other for other in web.around(face) if other != free][0]
    signs = side_signs(greater)
    own = [(side, -signs[free] * sign) for side, sign in signs.items() if side != free]
    later = web.without(face)
    return Step(web, later, home_map(later, web, {}), {free: own, greater: []})


def first_free(web):
    """The first free face in the order of tops, or None."""
    for face in web.places:
        if is_free(web, face):
            return face
    return None


def drawn_down(web):
    """The steps that make a web lesser at the first free face until there is none."""
    steps = []
    face = first_free(web)
    while face is not None:
        steps.append(lesser(web, face))
        web = steps[-1].later
        face = first_free(web)
    return steps

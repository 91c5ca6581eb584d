"""Webs: sets of faces, each with all its own faces."""

from cupweb.errors import BadFace
from cupweb.errors import Full
from cupweb.errors import NoFace

# Points are numbers from 0 to one less than this.
POINTS = 16

# The size of a four; a face has one point more than its size.
GREATEST_SIZE = 3

# No web has more faces.
MOST_FACES = 120


def is_face(face):
    """True where a tuple is a face: one to four unlike points."""
    if not 1 <= len(face) <= GREATEST_SIZE + 1 or len(set(face)) != len(face):
        return False
    return all([0 <= point < POINTS for point in face])


def growing(face):
    """The tuple by which a face is told, whatever the order of its points."""
    return tuple(sorted(face))


def order_sign(points):
    """1 where an even number of exchanges of neighbours brings the points into growing order, -1 where an odd one.

    0 where two of them are alike.
    """
    if len(set(points)) != len(points):
        return 0
    # Each pair that stands the wrong way about costs just one exchange.
    wrong = [at for at, point in enumerate(points) for later in points[at + 1:] if later < point]
    return -1 if len(wrong) & 1 else 1


def sides(face):
    """The sides of a growing face by the places that are left out; a point has none."""
    if len(face) == 1:
        return []
    return [face[:at] + face[at + 1:] for at in range(len(face))]


def own_faces(face):
    """All faces of a growing face, itself too."""
    told = []
    for point in face:
        told = told + [lesser + (point,) for lesser in told] + [(point,)]
    return told


def all_faces(faces):
    """The faces and all their own ones, growing, each once, in order."""
    found = {}
    for face in faces:
        for own in own_faces(growing(face)):
            found[own] = True
    return sorted(found)


def numbered(faces):
    """A dict of each face's number among those of its size, in the order of the faces."""
    counts = [0] * (GREATEST_SIZE + 1)
    places = {}
    for face in faces:
        size = len(face) - 1
        places[face] = counts[size]
        counts[size] += 1
    return places


def face_text(face):
    """A face in writing: its points, in the order handed in, with a full stop between."""
    return ".".join([str(point) for point in face])


class Web:
    """A web of the faces told and all their own ones; it is never changed."""

    def __init__(self, faces=()):
        for at, face in enumerate(faces):
            if not is_face(face):
                raise BadFace(at)
        told = all_faces(faces)
        if len(told) > MOST_FACES:
            raise Full()
        # The keys stand in the order of tops, so those of one size stand in their own order too.
        self.places = numbered(told)

    def faces(self, size):
        """The faces of a size, in order."""
        return [face for face in self.places if len(face) == size + 1]

    def many(self, size):
        """How many faces of a size there are."""
        return len(self.faces(size))

    def size(self):
        """The greatest size, -1 without faces."""
        return max([len(face) - 1 for face in self.places], default=-1)

    def has(self, face):
        """True where the face is there."""
        return growing(face) in self.places

    def place(self, face):
        """The face's number among those of its size."""
        if not self.has(face):
            raise NoFace()
        return self.places[growing(face)]

    def around(self, face):
        """All faces that have all points of the face, in the order of tops."""
        # A tuple that is no face, such as the empty one, may have its points in faces all the same.
        if not self.has(face):
            return []
        return [other for other in self.places if all([point in other for point in face])]

    def tops(self):
        """The faces that lie in no other one."""
        covered = {}
        for face in self.places:
            for side in sides(face):
                covered[side] = True
        return [face for face in self.places if face not in covered]

    def fresh(self):
        """The least point that is not there, or None."""
        for point in range(POINTS):
            if (point,) not in self.places:
                return point
        return None

    def with_face(self, face):
        """A web that has the face too, with its own ones."""
        if not is_face(face):
            raise BadFace()
        return Web(self.tops() + [face])

    def without(self, face):
        """A web that has neither the face nor any in which it lies."""
        if not self.has(face):
            raise NoFace()
        gone = self.around(face)
        return Web([other for other in self.places if other not in gone])

    def __eq__(self, other):
        return isinstance(other, Web) and self.places == other.places

    def __len__(self):
        return len(self.places)

    def __repr__(self):
        return f"Web({self.tops()})"

    def __str__(self):
        words = [face_text(face) for face in self.tops()]
        return " ".join(words or ["none"])

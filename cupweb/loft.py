"""A loft: webs and kept rows by names, and the deeds by which they came to stand so."""

from cupweb.cups import product_numbers
from cupweb.errors import BadKind
from cupweb.errors import NothingLeft
from cupweb.errors import Unlike
from cupweb.groups import cuts
from cupweb.groups import rings
from cupweb.papers import filled
from cupweb.papers import raised
from cupweb.stand import BUNDLE
from cupweb.stand import CUT
from cupweb.stand import Stand
from cupweb.stand import after
from cupweb.stand import own_deeds
from cupweb.web import GREATEST_SIZE
from cupweb.wholes import WHOLE


class Loft:
    """A loft without webs; past has each standing deed with the stand ahead of it, future each one taken back."""

    def __init__(self):
        self.now = Stand({}, {})
        self.past = []
        self.future = []

    def do(self, deed):
        """Do a deed told as a tuple."""
        own = own_deeds(deed)
        later = after(self.now, own)
        self.past.append((own, self.now))
        self.now = later
        self.future = []

    def begin(self, name):
        """A web without faces comes."""
        self.do(("begin", name))

    def drop(self, name):
        """The web goes, and all rows kept of it."""
        self.do(("drop", name))

    def put(self, name, face):
        """The face comes into the web, with its own faces."""
        self.do(("put", name, face))

    def take(self, name, face):
        """The face goes from the web, and all in which it lies."""
        self.do(("take", name, face))

    def finer(self, name, face):
        """The web is made finer at the face."""
        self.do(("finer", name, face))

    def lesser(self, name, face):
        """The web is made lesser at the face."""
        self.do(("lesser", name, face))

    def keep(self, row, name, kind, size, numbers, *, rests=WHOLE):
        """A ring or a cut of the web is kept as row."""
        self.do(("keep", row, name, kind, size, rests, numbers))

    def forget(self, row):
        """The kept row goes."""
        self.do(("forget", row))

    def bundle(self, deeds):
        """Several deeds are done as one."""
        self.do((BUNDLE, deeds))

    def undo(self):
        """Take the last deed back; tells it."""
        if not self.past:
            raise NothingLeft()
        deed, ahead = self.past.pop()
        self.future.append((deed, self.now))
        self.now = ahead
        return deed

    def redo(self):
        """Do again what was taken back last; tells it."""
        if not self.future:
            raise NothingLeft()
        deed, behind = self.future.pop()
        self.past.append((deed, self.now))
        self.now = behind
        return deed

    def twin(self):
        """A loft that stands alike, with the same to take back and do again."""
        other = Loft()
        other.now = self.now
        other.past = list(self.past)
        other.future = list(self.future)
        return other

    def names(self):
        """The names of the webs, in the order in which they came."""
        return list(self.now.webs)

    def rows(self):
        """The names of the kept rows, in the order in which they came."""
        return list(self.now.kept)

    def shape(self, name):
        """The web of that name."""
        return self.now.web(name)

    def row(self, row):
        """(name, kind, size, rests, list of numbers) of a kept row."""
        name, kind, size, rests, numbers = self.now.kept_row(row)
        return name, kind, size, rests, list(numbers)

    def paper(self, row):
        """What is told of a ring's being filled, or of a cut's being raised."""
        name, kind, size, rests, numbers = self.now.kept_row(row)
        if kind == CUT:
            return raised(self.shape(name), size, numbers, rests=rests)
        return filled(self.shape(name), size, numbers, rests=rests)

    def numbers(self, row):
        """The kept row's numbers by its group's makers."""
        name, kind, size, rests, numbers = self.now.kept_row(row)
        if kind == CUT:
            return cuts(self.shape(name), size, rests=rests).coordinates(numbers)
        return rings(self.shape(name), size, rests=rests).coordinates(numbers)

    def product(self, row, other):
        """The numbers of the product of two kept cuts by the makers, empty beyond size 3."""
        name, kind, size, rests, numbers = self.now.kept_row(row)
        second, sort, high, more_rests, more = self.now.kept_row(other)
        if kind != CUT or sort != CUT:
            raise BadKind()
        if name != second or rests != more_rests:
            raise Unlike()
        if size + high > GREATEST_SIZE:
            return []
        web = self.shape(name)
        group = cuts(web, size + high, rests=rests)
        return product_numbers(web, size, numbers, high, more, group, rests)

    def deeds(self):
        """The standing deeds, in order."""
        return [deed for deed, ahead in self.past]

    def undone(self):
        """The deeds that could be done again, the next one first."""
        return [deed for deed, behind in reversed(self.future)]

"""How a loft stands: webs and kept rows by names, and what each deed makes of it."""

from cupweb.errors import BadKind
from cupweb.errors import BadName
from cupweb.errors import Full
from cupweb.errors import Had
from cupweb.errors import NoRow
from cupweb.errors import NoWeb
from cupweb.errors import NotShut
from cupweb.errors import Taken
from cupweb.rows import is_cut
from cupweb.rows import is_ring
from cupweb.steps import finer
from cupweb.steps import lesser
from cupweb.web import Web
from cupweb.wholes import rested

RING = "ring"
CUT = "cut"
BUNDLE = "bundle"

LETTERS = "abcdefghijklmnopqrstuvwxyz"
LONGEST_NAME = 8

MOST_WEBS = 6
MOST_ROWS = 12


def is_name(text):
    """True where a text is a name: 1 to 8 small letters."""
    return 1 <= len(text) <= LONGEST_NAME and all([sign in LETTERS for sign in text])


class Stand:
    """Webs by names, and kept rows by names as (web's name, kind, size, rests, numbers); it is never changed."""

    def __init__(self, webs, kept):
        self.webs = webs
        self.kept = kept

    def web(self, name):
        """The web of that name."""
        if name not in self.webs:
            raise NoWeb()
        return self.webs[name]

    def kept_row(self, row):
        """The kept row of that name."""
        if row not in self.kept:
            raise NoRow()
        return self.kept[row]


def refuse_new(name, known):
    """Refuse what is no name, or is the name of a known one."""
    if not is_name(name):
        raise BadName()
    if name in known:
        raise Taken()


def without_key(known, key):
    """The dict without one of its keys."""
    return {other: known[other] for other in known if other != key}


def with_web(stand, name, web, over):
    """The stand with another web of that name; over tells the numbers of each row kept of it, None where it goes."""
    kept = {}
    for row, (home, kind, size, rests, numbers) in stand.kept.items():
        told = over(kind, size, rests, numbers) if home == name else numbers
        if told is not None:
            kept[row] = (home, kind, size, rests, tuple(told))
    return Stand({**stand.webs, name: web}, kept)


def by_faces(elder, later, kind, size, rests, numbers):
    """The numbers of a row that stays where faces come or go, None where the row goes."""
    known = {face: number for face, number in zip(elder.faces(size), numbers)}
    told = [known.get(face, 0) for face in later.faces(size)]
    if kind == CUT:
        return told if is_cut(later, size, told, rests=rests) else None
    lost = [number for face, number in known.items() if not later.has(face)]
    return None if any(lost) else told


def by_step(step, kind, size, rests, numbers):
    """The numbers of a row that goes along with a step."""
    if kind == CUT:
        return step.home.back(size, numbers, rests=rests)
    return step.forth(size, numbers, rests=rests)


def with_faces(stand, name, later):
    """The stand with a web that has more faces, or fewer."""
    elder = stand.web(name)

    def over(kind, size, rests, numbers):
        return by_faces(elder, later, kind, size, rests, numbers)

    return with_web(stand, name, later, over)


def with_step(stand, name, step):
    """The stand with the web to which a step leads."""
    def over(kind, size, rests, numbers):
        return by_step(step, kind, size, rests, numbers)

    return with_web(stand, name, step.later, over)


def begun(stand, name):
    """A web without faces comes."""
    refuse_new(name, stand.webs)
    if len(stand.webs) >= MOST_WEBS:
        raise Full()
    return Stand({**stand.webs, name: Web()}, stand.kept)


def dropped(stand, name):
    """A web goes, and all rows kept of it."""
    stand.web(name)
    kept = {row: known for row, known in stand.kept.items() if known[0] != name}
    return Stand(without_key(stand.webs, name), kept)


def put(stand, name, face):
    """A face comes into a web, with its own faces."""
    web = stand.web(name)
    # No web has a tuple that is no face, so what is refused as such comes ahead of this all the same.
    if web.has(face):
        raise Had()
    return with_faces(stand, name, web.with_face(face))


def taken(stand, name, face):
    """A face goes from a web, and all in which it lies."""
    return with_faces(stand, name, stand.web(name).without(face))


def made_finer(stand, name, face):
    """A web is made finer at a face."""
    return with_step(stand, name, finer(stand.web(name), face))


def made_lesser(stand, name, face):
    """A web is made lesser at a face."""
    return with_step(stand, name, lesser(stand.web(name), face))


def is_shut(web, kind, size, numbers, rests):
    """True where the numbers are a row of that kind."""
    if kind == CUT:
        return is_cut(web, size, numbers, rests=rests)
    return is_ring(web, size, numbers, rests=rests)


def kept_too(stand, row, name, kind, size, rests, numbers):
    """A ring or a cut of a web is kept."""
    refuse_new(row, stand.kept)
    web = stand.web(name)
    if kind not in (RING, CUT):
        raise BadKind()
    if not is_shut(web, kind, size, numbers, rests):
        raise NotShut()
    if len(stand.kept) >= MOST_ROWS:
        raise Full()
    return Stand(stand.webs, {**stand.kept, row: (name, kind, size, rests, tuple(rested(numbers, rests)))})


def forgotten(stand, row):
    """A kept row goes."""
    stand.kept_row(row)
    return Stand(stand.webs, without_key(stand.kept, row))


DEEDS = {
    "begin": begun, "drop": dropped, "put": put, "take": taken, "finer": made_finer, "lesser": made_lesser,
    "keep": kept_too, "forget": forgotten,
}


def own_deed(deed):
    """A deed of tuples alone, so that no list that is handed in is kept."""
    return tuple([tuple(part) if isinstance(part, list) else part for part in deed])


def own_deeds(deed):
    """A deed, or a bundle of deeds, of tuples alone."""
    if deed[0] != BUNDLE:
        return own_deed(deed)
    return BUNDLE, tuple([own_deed(part) for part in deed[1]])


def after_deed(stand, deed):
    """What a deed that is no bundle makes of the stand."""
    word, *handed = deed
    if word not in DEEDS:
        raise BadKind()
    action = DEEDS[word]
    return action(stand, *handed)


def after(stand, deed):
    """What a deed makes of the stand."""
    if deed[0] != BUNDLE:
        return after_deed(stand, deed)
    if any([part[0] == BUNDLE for part in deed[1]]):
        raise BadKind()
    for part in deed[1]:
        stand = after_deed(stand, part)
    return stand

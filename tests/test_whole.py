"""What the document promises over the whole program: points 2 and 4, and each refusal its own."""

import copy
import itertools
import random
import unittest

from cupweb import errors
from cupweb.cross import Cross, beside, coned
from cupweb.cups import cap, cup, exchanged, products, stepped
from cupweb.forms import Form
from cupweb.groups import cuts, rings
from cupweb.loft import Loft
from cupweb.maps import Map, stays
from cupweb.pages import deed_of, deed_text, loft_of, page
from cupweb.papers import filled, raised, shows_filled, shows_raised
from cupweb.rows import border, is_cut, is_ring, rise
from cupweb.solving import judged, solved
from cupweb.steps import drawn_down, finer, lesser
from cupweb.web import Web
from drawn import BAD_RESTS, BENT_PLANE, closed, known_webs, loop, refusals, two_row_refusals

WORDS = (
    "BadFace", "Full", "BadSize", "BadRow", "BadRests", "NotShut", "BadMap", "NotFace", "NotNear", "NoFace",
    "NotFree", "BadName", "Taken", "NoWeb", "NoRow", "BadKind", "Unlike", "Had", "NothingLeft", "BadText",
)
# 15 points and the 105 stretches between them; and all points there are.
BRIM = list(itertools.combinations(range(15), 2))
POINTS = [(point,) for point in range(16)]


def small_loft():
    loft = Loft()
    loft.begin("a")
    loft.put("a", (0, 1, 2))
    loft.put("a", (2, 3))
    loft.keep("r", "a", "ring", 1, [1, -1, 1, 0])
    return loft


def turned_points():
    """The map that leads each of the points to the one beside it."""
    return Map(Web(POINTS), Web(POINTS), [(point, (point + 1) % 16) for point in range(16)])


# For each refusal one asking that is refused with it, and the number that is told with it.
ASKINGS = {
    "BadFace": (lambda: Web([(0,), (1, 2), (3, 3), (16,)]), 2),
    "Full": (lambda: Web(BRIM + [(15,)]), -1),
    "BadSize": (lambda: border(Web([(0, 1)]), 4, []), -1),
    "BadRow": (lambda: rise(Web([(0, 1)]), 0, [1, 2, 3]), -1),
    "BadRests": (lambda: rings(Web([(0, 1)]), 0, rests=61), -1),
    "NotShut": (lambda: cuts(Web([(0, 1)]), 0).coordinates([1, 2]), -1),
    "BadMap": (lambda: Map(Web([(0, 1)]), Web([(0, 1)]), [(0, 0)]), -1),
    "NotFace": (lambda: Map(Web([(0, 1), (1, 2)]), Web([(0, 1), (2,)]), [(0, 0), (1, 1), (2, 2)]), 4),
    "NotNear": (lambda: stays(Web(POINTS)).between(turned_points(), 0, [1] * 16), -1),
    "NoFace": (lambda: Web([(0, 1)]).place((0, 2)), -1),
    "NotFree": (lambda: lesser(Web([(0, 1)]), (0, 1)), -1),
    "BadName": (lambda: Loft().begin("A"), -1),
    "Taken": (lambda: small_loft().begin("a"), -1),
    "NoWeb": (lambda: Loft().drop("a"), -1),
    "NoRow": (lambda: Loft().forget("a"), -1),
    "BadKind": (lambda: small_loft().product("r", "r"), -1),
    "Unlike": (lambda: stays(Web([(0,)])).then(stays(Web([(1,)]))), -1),
    "Had": (lambda: small_loft().put("a", (2, 1)), -1),
    "NothingLeft": (lambda: Loft().undo(), -1),
    "BadText": (lambda: loft_of("begin a\nbegin b\nbegin a\n"), 2),
}


class RefusalsTest(unittest.TestCase):
    def test_each_refusal_is_its_own(self):
        self.assertEqual(sorted(ASKINGS), sorted(WORDS))
        for word, (asking, at) in ASKINGS.items():
            for _ in range(2):
                with self.subTest(word=word):
                    with self.assertRaises(errors.WebError) as held:
                        asking()
                    self.assertIs(type(held.exception), getattr(errors, word))
                    self.assertEqual((held.exception.at, held.exception.word), (at, word))

    def test_every_refusal_of_the_loft_comes_out_of_a_page(self):
        text = page(small_loft())
        rows = text.count("\n")
        for row in (
            "begin a", "begin A", "drop b", "put b 0", "put a 0.0", "put a 0.1", "take a 9", "finer a 3", "lesser a 2",
            "keep r a ring 0 0 1", "keep s a row 0 0 1", "keep s a cut 4 0 1", "keep s a cut 1 1 1", "keep s a cut 1 0 1",
            "keep s a cut 0 0 1,1,1,2", "forget s", "all: forget r; forget r",
        ):
            with self.assertRaises(errors.BadText) as held:
                loft_of(text + row + "\n")
            self.assertEqual(held.exception.at, rows, row)

    def test_one_row(self):
        """Each function of web, size, row and rests, and each method of size, row and rests."""
        web, later = Web([(0, 1, 2), (2, 3)]), finer(Web([(0, 1, 2), (2, 3)]), (0, 1))
        less = lesser(web, (0, 1))
        led = Map(web, web, [(0, 0), (1, 1), (2, 2), (3, 3)])
        far = Map(web, web, [(0, 3), (1, 3), (2, 3), (3, 3)])
        crossed = Cross(web, Web([(0, 1)]))
        loft = Loft()
        loft.bundle([("begin", "a"), ("put", "a", (0, 1, 2)), ("put", "a", (2, 3))])
        asked = [(web, function, (web,), ()) for function in (border, rise, is_ring, is_cut, filled, raised)]
        asked += [(web, function, (web,), (("found", []),)) for function in (shows_filled, shows_raised)]
        asked += [(web, led.forth, (), ()), (web, led.back, (), ()), (web, far.forth, (), ())]
        asked += [(web, led.between, (other,), ()) for other in (led, far, stays(Web()))]
        asked += [(web, later.forth, (), ()), (later.later, later.back, (), ()), (less.later, less.back, (), ())]
        asked += [(web, less.forth, (), ()), (crossed.made, crossed.apart, (), ())]
        for on, function, ahead, behind in asked:
            for size, rests, row, word in refusals(lambda size: list(range(1, on.many(size) + 1))):
                self.refused(word, function, *ahead, size, row, *behind, rests=rests)
        for kind in ("ring", "cut"):
            for size, rests, row, word in refusals(lambda size: list(range(1, web.many(size) + 1))):
                self.refused(word, loft.keep, "x", "a", kind, size, row, rests=rests)
        for size, rests, row, word in refusals(lambda size: list(range(1, web.many(size) + 1)), good_rests=(2, 60)):
            self.refused(word, stepped, web, size, row, rests=rests)

    def test_two_rows(self):
        web = Web([(0, 1, 2), (2, 3)])
        for size, row, high, other, rests, word in two_row_refusals(lambda size: list(range(1, web.many(size) + 1))):
            for function in (cup, cap, exchanged):
                self.refused(word, function, web, size, row, high, other, rests=rests)

    def test_sizes_and_rests_alone(self):
        web = Web(BENT_PLANE)
        for size in (-1, 4, 10 ** 29):
            for rests in (0, 2, *BAD_RESTS):
                for function in (rings, cuts):
                    self.refused("BadSize", function, web, size, rests=rests)
                for high in (0, 4):
                    self.refused("BadSize", products, web, size, high, rests=rests)
                self.refused("BadRests" if rests in BAD_RESTS else "BadSize", products, web, 0, size, rests=rests)
        for rests in BAD_RESTS:
            for size in range(4):
                for function in (rings, cuts):
                    self.refused("BadRests", function, web, size, rests=rests)
            self.refused("BadRests", solved, [[1]], 1, [1], rests=rests)
            self.refused("BadRests", judged, [[1]], 1, [1], ("found", [1]), rests=rests)

    def refused(self, word, function, *handed, **more):
        kept = copy.deepcopy([part for part in handed if isinstance(part, list)])
        with self.subTest(function=function.__name__, handed=handed, more=more):
            with self.assertRaises(getattr(errors, word)):
                function(*handed, **more)
            self.assertEqual([part for part in handed if isinstance(part, list)], kept)


class BoundsTest(unittest.TestCase):
    def test_120_faces(self):
        web = Web(BRIM)
        self.assertEqual(len(web), 120)
        for asked in (
            lambda: web.with_face((15,)), lambda: web.with_face((0, 1, 2)), lambda: finer(web, (0, 1)),
            lambda: coned(web), lambda: beside(web, Web([(0,)])), lambda: beside(Web([(0,)]), web),
            lambda: Cross(web, Web([(0, 1)])), lambda: Web(BRIM + [(0, 1, 2)]),
        ):
            with self.assertRaises(errors.Full):
                asked()
        self.assertEqual(beside(web, Web()), (web, 15))
        self.assertEqual(beside(Web(), web), (web, 0))
        self.assertEqual(web.with_face((1, 0)), web)
        self.assertEqual(len(rings(web, 1)), 91)
        self.assertEqual(drawn_down(web), [])

    def test_16_points(self):
        web = Web(POINTS + [(0, 1, 2)])
        for asked in (
            lambda: finer(web, (0, 1)), lambda: finer(web, (2, 1, 0)), lambda: coned(web), lambda: beside(web, Web([(0,)])),
            lambda: beside(Web([(0,)]), web), lambda: Cross(web, Web([(0,), (1,)])),
        ):
            with self.assertRaises(errors.Full):
                asked()
        self.assertIsNone(web.fresh())
        self.assertEqual(len(web.with_face((15, 14, 13, 12))), len(web) + 11)
        self.assertEqual(Cross(web, Web([(5,)])).made, web)

    def test_a_loft(self):
        loft = Loft()
        loft.bundle([("begin", "a")] + [("put", "a", face) for face in BRIM])
        loft.bundle([("begin", "b")] + [("put", "b", face) for face in POINTS + [(0, 1)]])
        before = page(loft)
        for deed in (
            ("put", "a", (15,)), ("put", "a", (0, 1, 2)), ("finer", "a", (0, 1)), ("finer", "b", (0, 1)),
            ("bundle", (("begin", "c"), ("finer", "b", (1, 0)))),
        ):
            with self.assertRaises(errors.Full):
                loft.do(deed)
            self.assertEqual(page(loft), before)
        self.assertEqual(loft.names(), ["a", "b"])


class HandedInTest(unittest.TestCase):
    """Point 2: nothing that is handed in is changed or kept, and each list that is told is a new one."""

    def asked(self):
        """Askings of lists, each a function without arguments that makes and asks anew, and what is held between."""
        web = Web(known_webs()["walls beside"])
        group, plane = rings(web, 1), cuts(Web(BENT_PLANE), 2, rests=4)
        led, step = stays(web), finer(web, (0, 1))
        cross = Cross(Web(loop(3)), Web([(0, 1)]))
        loft = small_loft()
        loft.begin("b")
        loft.undo()
        ring = [1, -1, 1] + [0] * 6
        asked = [lambda size=size: web.faces(size) for size in range(4)]
        asked += [web.tops, lambda: web.around((0,)), lambda: border(web, 1, ring), lambda: rise(web, 0, [1] * 7)]
        asked += [lambda: filled(web, 1, ring)[1], lambda: raised(web, 1, [0] * 9)[1]]
        asked += [lambda: group.coordinates(ring), lambda: group.together([3]), lambda: plane.together([1])]
        asked += [lambda: cup(web, 1, ring, 1, ring), lambda: cap(web, 1, ring, 0, [1] * 7)]
        asked += [lambda: exchanged(web, 1, ring, 0, [1] * 7), lambda: products(web, 0, 1)]
        asked += [lambda: stepped(web, 0, [3] * 7, rests=2), lambda: led.forth(1, ring), lambda: led.back(1, ring)]
        asked += [lambda: led.between(led, 1, ring), lambda: step.forth(1, ring), lambda: step.back(0, [1] * 8)]
        asked += [lambda: cross.across(1, [1, 2, 3], 0, [4, 5]), lambda: cross.apart(0, list(range(6)))]
        asked += [loft.names, loft.rows, lambda: loft.row("r")[4], lambda: loft.paper("r")[1]]
        asked += [lambda: loft.numbers("r"), loft.deeds, loft.undone, lambda: rings(web, 1).makers]
        asked += [lambda: rings(web, 1).orders, lambda: Form([[2, 4], [6, 8]], 2).left, lambda: cross.pairs[:]]
        asked += [lambda: Form([[2, 4], [6, 8]], 2).steps, lambda: solved([[2, 4], [6, 8]], 2, [2, 6])[1]]
        return asked

    def test_told_lists_are_new_ones(self):
        for asking in self.asked():
            right = copy.deepcopy(asking())
            for bend in (self.emptied, self.longer, self.bent):
                bend(asking())
                self.assertEqual(asking(), right)

    def emptied(self, told):
        self.assertIs(type(told), list)
        for part in told:
            if isinstance(part, list):
                self.emptied(part)
        told.clear()

    def longer(self, told):
        for part in told:
            if isinstance(part, list):
                self.longer(part)
        told.append(99)

    def bent(self, told):
        for at, part in enumerate(told):
            if isinstance(part, list):
                self.bent(part)
            else:
                told[at] = 98

    def test_webs_that_are_handed_in_stay(self):
        chance = random.Random(2301)
        for faces in known_webs().values():
            web = Web(faces)
            rings(web, 1), cuts(web, 1, rests=2), stays(web), drawn_down(web), repr(web), products(web, 0, 1)
            for face in chance.sample(closed(faces), min(3, len(closed(faces)))):
                for function in (finer, lesser, Web.without, Web.with_face):
                    try:
                        function(web, face)
                    except errors.WebError:
                        pass
            self.assertEqual(web, Web(faces))
            self.assertEqual(web.tops(), Web(faces).tops())

    def test_there_and_back_in_writing(self):
        loft = small_loft()
        for deed in loft.deeds():
            self.assertEqual(deed_of(deed_text(deed)), deed)
        self.assertEqual(loft_of(page(loft)).deeds(), loft.deeds())


if __name__ == "__main__":
    unittest.main()

"""cupweb/web.py: points 2, 3 and 21 (for `str`), and the interface's section of that name."""

import inspect
import itertools
import random
import unittest

from cupweb import errors
from cupweb.web import Web
from drawn import closed, of_size, some_faces

SIZES = (-10 ** 20, -2, -1, 0, 1, 2, 3, 4, 5, 17, 10 ** 20)
NO_FACES = (
    (), (0, 1, 2, 3, 4), (5, 5), (0, 0), (0, 1, 0), (2, 1, 1, 0), (-1,), (16,), (0, -1), (3, 16), (0, 1, 2, 16),
    (10 ** 29,), (1, -(10 ** 29)), (0, 1, 2, 3, 3), tuple(range(16)),
)
# 15 points and the 105 stretches between them are just as many faces as a web may have.
BRIM = list(itertools.combinations(range(15), 2))
METHODS = "faces many size has place around tops fresh with_face without __eq__ __len__ __repr__ __str__".split()


def tops_of(faces):
    told = closed(faces)
    return [face for face in told if not any(set(face) < set(other) for other in told)]


def around(faces, face):
    return [other for other in closed(faces) if set(face) <= set(other)]


def drawn_webs(seed, many, most=10, points=16):
    """(faces handed in, their web), the web without faces first."""
    chance = random.Random(seed)
    told = [[]] + [some_faces(chance, most, points) for _ in range(many)]
    return [(faces, Web(faces)) for faces in told]


class WebCase(unittest.TestCase):
    def check(self, web, faces):
        """That the web is just the one of the faces."""
        right = closed(faces)
        with self.subTest(faces=faces):
            self.assertIs(type(web), Web)
            for size in SIZES:
                self.assertEqual(web.faces(size), of_size(faces, size))
                self.assertIs(type(web.faces(size)), list)
                self.assertEqual(web.many(size), len(of_size(faces, size)))
            self.assertEqual(web.size(), max((len(face) - 1 for face in right), default=-1))
            self.assertEqual(web.tops(), tops_of(faces))
            self.assertEqual(len(web), len(right))
            left = [point for point in range(16) if (point,) not in right]
            self.assertEqual(web.fresh(), left[0] if left else None)


class FacesTest(WebCase):
    def test_by_hand(self):
        web = Web([(2, 0, 1), (3, 2), (5,), (1, 0)])
        self.assertEqual(web.faces(0), [(0,), (1,), (2,), (3,), (5,)])
        self.assertEqual(web.faces(1), [(0, 1), (0, 2), (1, 2), (2, 3)])
        self.assertEqual(web.faces(2), [(0, 1, 2)])
        self.assertEqual(web.faces(3), [])
        self.assertEqual((web.size(), len(web), web.fresh()), (2, 10, 4))
        self.assertEqual(web.tops(), [(0, 1, 2), (2, 3), (5,)])
        self.assertEqual(web.around((2,)), [(0, 1, 2), (0, 2), (1, 2), (2,), (2, 3)])
        self.assertEqual((web.place((2, 1)), web.place((5,)), web.place((1, 0, 2))), (2, 4, 0))

    def test_order_is_that_of_tuples_not_of_lengths(self):
        web = Web([(0, 3), (0, 1, 2), (1,), (10, 2), (9,)])
        self.assertEqual(web.tops(), [(0, 1, 2), (0, 3), (2, 10), (9,)])
        self.assertEqual(web.around((0,)), [(0,), (0, 1), (0, 1, 2), (0, 2), (0, 3)])
        self.assertEqual(web.faces(0), [(0,), (1,), (2,), (3,), (9,), (10,)])

    def test_without_faces(self):
        for web in (Web(), Web([]), Web(())):
            self.check(web, [])
            self.assertEqual((len(web), web.size(), web.fresh(), web.tops()), (0, -1, 0, []))

    def test_drawn_webs(self):
        for faces, web in drawn_webs(201, 150):
            self.check(web, faces)

    def test_webs_on_few_points(self):
        for faces, web in drawn_webs(202, 60, points=6):
            self.check(web, faces)

    def test_a_tuple_of_faces(self):
        for faces, web in drawn_webs(203, 30):
            self.check(Web(tuple(faces)), faces)

    def test_fresh(self):
        self.assertIsNone(Web([(point,) for point in range(16)]).fresh())
        for gone in range(16):
            self.assertEqual(Web([(point,) for point in range(16) if point != gone]).fresh(), gone)

    def test_all_four_sizes_of_one_four(self):
        for order in itertools.permutations((4, 15, 0, 9)):
            self.check(Web([order]), [(0, 4, 9, 15)])


class AskedTest(WebCase):
    def test_has_and_place_by_every_order_of_points(self):
        for faces, web in drawn_webs(211, 60):
            for size in range(4):
                for at, face in enumerate(of_size(faces, size)):
                    for order in itertools.permutations(face):
                        self.assertIs(web.has(order), True)
                        self.assertEqual(web.place(order), at)

    def test_faces_that_are_not_there(self):
        chance = random.Random(212)
        for faces, web in drawn_webs(213, 60):
            there = closed(faces)
            for _ in range(30):
                face = tuple(chance.sample(range(16), chance.randint(1, 4)))
                if tuple(sorted(face)) not in there:
                    self.check_gone(web, face)

    def check_gone(self, web, face):
        with self.subTest(web=web, face=face):
            self.assertIs(web.has(face), False)
            self.assertEqual(web.around(face), [])
            for asked in (web.place, web.without):
                with self.assertRaises(errors.NoFace):
                    asked(face)

    def test_tuples_that_are_no_face(self):
        for faces, web in drawn_webs(214, 15) + [([(0, 1, 2, 3)], Web([(0, 1, 2, 3)])), (BRIM, Web(BRIM))]:
            for face in NO_FACES:
                self.check_gone(web, face)

    def test_around(self):
        for faces, web in drawn_webs(215, 60):
            for face in closed(faces):
                right = around(faces, face)
                self.assertIn(face, right)
                for order in (face, face[::-1]):
                    self.assertEqual(web.around(order), right)

    def test_a_point_twice_has_nothing_around_it(self):
        web = Web([(0, 1, 2), (2, 3)])
        self.assertEqual(web.around((2, 2)), [])
        self.assertEqual(web.around(()), [])


class KeptTest(WebCase):
    def test_the_list_handed_in_stays_and_is_not_kept(self):
        for faces, web in drawn_webs(221, 40):
            handed = list(faces)
            made = Web(handed)
            self.assertEqual(handed, faces)
            handed.append((7, 8, 9))
            handed[0] = (15,)
            self.check(made, faces)
            handed.clear()
            self.check(made, faces)

    def test_told_lists_are_new_ones(self):
        for faces, web in drawn_webs(222, 40):
            for size in (-1, 0, 1, 2, 3, 4):
                web.faces(size).insert(0, (9, 10))
                web.faces(size).clear()
            web.tops().append((3,))
            for face in closed(faces)[:3] + [(), (0, 0)]:
                right = web.around(face)
                web.around(face).append((4,))
                self.assertEqual(web.around(face), right)
            self.check(web, faces)


class RefusedTest(WebCase):
    def test_the_first_one_that_is_no_face(self):
        for face in NO_FACES:
            for at in (0, 1, 5):
                faces = [(1, 2, 3)] * at + [face] + [(0, 1), (2, 2)]
                kept = list(faces)
                for handed in (faces, tuple(faces)):
                    with self.subTest(face=face, at=at), self.assertRaises(errors.BadFace) as held:
                        Web(handed)
                    self.assertEqual(held.exception.at, at)
                self.assertEqual(faces, kept)

    def test_edges_that_are_faces(self):
        for faces in ([(0,)], [(15,)], [(15, 0)], [(12, 13, 14, 15)], [(3, 2, 1, 0)]):
            self.check(Web(faces), faces)

    def test_bad_face_goes_ahead_of_full(self):
        full = list(itertools.combinations(range(16), 2))
        self.assertGreater(len(closed(full)), 120)
        for face in NO_FACES:
            for at in (0, 60, len(full)):
                with self.assertRaises(errors.BadFace) as held:
                    Web(full[:at] + [face] + full[at:])
                self.assertEqual(held.exception.at, at)

    def test_120_faces_are_let_and_no_more(self):
        self.assertEqual(len(closed(BRIM)), 120)
        self.check(Web(BRIM), BRIM)
        self.check(Web(BRIM + BRIM), BRIM)
        for more in ((15,), (0, 1, 2), (3, 2, 1, 0), (15, 14)):
            with self.assertRaises(errors.Full):
                Web(BRIM + [more])
            with self.assertRaises(errors.Full):
                Web([more] + BRIM)

    def test_own_faces_count(self):
        chance = random.Random(231)
        words = []
        for _ in range(60):
            faces = [tuple(chance.sample(range(16), 4)) for _ in range(chance.randint(6, 14))]
            if len(closed(faces)) > 120:
                words.append("full")
                with self.assertRaises(errors.Full):
                    Web(faces)
            else:
                words.append("let")
                self.check(Web(faces), faces)
        self.assertEqual(set(words), {"full", "let"})

    def test_many_more_than_full(self):
        with self.assertRaises(errors.Full):
            Web(list(itertools.combinations(range(16), 4))[:400])


class ChangedTest(WebCase):
    def test_with_face(self):
        chance = random.Random(241)
        for faces, web in drawn_webs(242, 80, most=6):
            for face in [tuple(chance.sample(range(16), chance.randint(1, 4))) for _ in range(5)] + closed(faces)[:6]:
                self.check(web.with_face(face), faces + [face])
                self.check(web.with_face(face[::-1]), faces + [face])
            self.check(web, faces)

    def test_with_face_refused(self):
        for faces, web in drawn_webs(243, 10) + [(BRIM, Web(BRIM))]:
            for face in NO_FACES:
                with self.assertRaises(errors.BadFace) as held:
                    web.with_face(face)
                self.assertEqual(held.exception.at, -1)
            self.check(web, faces)

    def test_with_face_of_a_web_at_the_brim(self):
        web = Web(BRIM)
        for face in ((15,), (0, 1, 2), (9, 8, 7, 6), (3, 15)):
            with self.assertRaises(errors.Full):
                web.with_face(face)
        for face in ((0,), (14, 13), (3, 0)):
            self.check(web.with_face(face), BRIM)
        self.check(web, BRIM)
        nearly = Web(BRIM[1:])
        self.check(nearly.with_face((1, 0)), BRIM)
        with self.assertRaises(errors.Full):
            nearly.with_face((0, 1, 2))

    def test_without(self):
        for faces, web in drawn_webs(244, 60, most=6):
            for face in closed(faces):
                left = [other for other in closed(faces) if not set(face) <= set(other)]
                self.check(web.without(face), left)
                self.check(web.without(face[::-1]), left)
            self.check(web, faces)

    def test_without_refused(self):
        web = Web([(0, 1, 2), (2, 3)])
        for face in NO_FACES + ((4,), (0, 3), (1, 2, 3)):
            with self.assertRaises(errors.NoFace):
                web.without(face)
        self.check(web, [(0, 1, 2), (2, 3)])

    def test_one_taken_and_put_again(self):
        for faces, web in drawn_webs(245, 40):
            for face in web.tops():
                self.assertEqual(web.without(face).with_face(face), web)


class AlikeTest(WebCase):
    def equal(self, one, other, right):
        for first, second in ((one, other), (other, one)):
            self.assertIs(first == second, right)
            self.assertIs(first != second, not right)

    def test_the_same_faces(self):
        chance = random.Random(251)
        for faces, web in drawn_webs(252, 80):
            again = [tuple(chance.sample(face, len(face))) for face in faces + closed(faces)[::3] + faces[:2]]
            chance.shuffle(again)
            self.equal(web, Web(again), True)
            self.equal(web, Web(closed(faces)), True)
            self.equal(web, web, True)

    def test_one_more_and_one_fewer(self):
        chance = random.Random(253)
        for faces, web in drawn_webs(254, 80):
            more = tuple(chance.sample(range(16), chance.randint(1, 4)))
            self.equal(web, Web(faces + [more]), closed(faces) == closed(faces + [more]))
            self.equal(web, Web(), faces == [])
            for face in web.tops():
                self.equal(web, Web([other for other in closed(faces) if other != face]), False)

    def test_as_many_faces_that_are_others(self):
        self.equal(Web([(0, 1)]), Web([(0, 2)]), False)
        self.equal(Web([(0, 1), (1, 2), (0, 2)]), Web([(0, 1), (1, 2), (2, 3)]), False)

    def test_other_things(self):
        for faces, web in drawn_webs(255, 10):
            for thing in (None, 0, len(web), faces, tuple(faces), closed(faces), repr(web), str(web), {}, object()):
                self.equal(web, thing, False)


class WrittenTest(WebCase):
    def test_by_hand(self):
        for faces, told, text in (
            ([], "Web([])", "none"),
            ([(0,)], "Web([(0,)])", "0"),
            ([(1, 0)], "Web([(0, 1)])", "0.1"),
            ([(2, 0, 1), (3, 2), (5,)], "Web([(0, 1, 2), (2, 3), (5,)])", "0.1.2 2.3 5"),
            ([(15, 10, 9, 0), (1,)], "Web([(0, 9, 10, 15), (1,)])", "0.9.10.15 1"),
        ):
            self.assertEqual(repr(Web(faces)), told)
            self.assertEqual(str(Web(faces)), text)

    def test_drawn_webs(self):
        for faces, web in drawn_webs(261, 80):
            self.assertEqual(repr(web), "Web(" + repr(tops_of(faces)) + ")")
            words = [".".join(map(str, face)) for face in tops_of(faces)]
            self.assertEqual(str(web), " ".join(words) if words else "none")
            self.assertEqual(f"{web}", str(web))


class NamesTest(unittest.TestCase):
    def test_names_are_as_the_interface_tells(self):
        for name in METHODS:
            self.assertIn(name, vars(Web))
        parameters = inspect.signature(Web).parameters
        self.assertEqual(list(parameters), ["faces"])
        self.assertEqual(parameters["faces"].default, ())
        for name in METHODS[:10]:
            wished = {"faces": ["size"], "many": ["size"], "size": [], "tops": [], "fresh": []}.get(name, ["face"])
            self.assertEqual(list(inspect.signature(getattr(Web, name)).parameters)[1:], wished)


if __name__ == "__main__":
    unittest.main()

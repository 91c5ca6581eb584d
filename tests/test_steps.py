"""cupweb/steps.py: points 2, 4 and 14, and the interface's section of that name."""

import inspect
import itertools
import random
import unittest

from cupweb import errors
from cupweb.cups import cup
from cupweb.groups import cuts, rings
from cupweb.maps import Map
from cupweb.steps import Step, drawn_down, finer, lesser
from cupweb.web import Web
from drawn import (
    NO_FACES, RESTS, by_rests, closed, free_faces, known_webs, least_fresh, of_size, own_border, own_finer, own_lesser,
    own_over, own_rise, refusals, some_faces, some_row, wall,
)


def drawn_webs(seed, many, most=6):
    """(chance, faces handed in, their web), with known webs."""
    chance = random.Random(seed)
    told = list(known_webs().values()) + [some_faces(chance, most, chance.choice((4, 5, 6, 8))) for _ in range(many)]
    return [(chance, faces, Web(faces)) for faces in told]


def own_back(faces, later, gone, size, row):
    numbers = dict(zip(of_size(later, size), row, strict=True))
    told = []
    for face in of_size(faces, size):
        told.append(sum(sign * numbers[other] for other, sign in gone.get(face, [(face, 1)])))
    return told


class StepsCase(unittest.TestCase):
    def check(self, chance, faces, step, later, gone, leads):
        """All that point 14 says of a step, by the test's own sums."""
        self.assertIs(type(step), Step)
        self.assertEqual((step.elder, step.later), (Web(faces), Web(later)))
        self.assertEqual(step.home, Map(Web(later), Web(faces), list(leads.items())))
        for size in range(4):
            for rests in (0, chance.choice(RESTS)):
                self.check_rows(chance, faces, step, later, gone, size, rests)
            self.check_laws(chance, faces, step, later, size)

    def check_rows(self, chance, faces, step, later, gone, size, rests):
        row, other = (some_row(chance, len(of_size(part, size))) for part in (faces, later))
        kept = list(row), list(other)
        forth = by_rests(own_over(faces, later, gone, size, row), rests)
        back = by_rests(own_back(faces, later, gone, size, other), rests)
        for _ in range(2):
            told = step.forth(size, row, rests=rests)
            self.assertEqual(told, forth)
            told.append(5)
            told = step.back(size, other, rests=rests)
            self.assertEqual(told, back)
            told.append(5)
        self.assertEqual((row, other), kept)
        if not rests:
            self.assertEqual((step.forth(size, row), step.back(size, other)), (forth, back))

    def check_laws(self, chance, faces, step, later, size):
        """Borders of rows that go over, rises of rows that come back, and there and home again."""
        row, other = (some_row(chance, len(of_size(part, size)), 5) for part in (faces, later))
        if size > 0:
            left = own_border(later, size, step.forth(size, row))
            self.assertEqual(left, step.forth(size - 1, own_border(faces, size, row)))
        if size < 3:
            left = own_rise(faces, size, step.back(size, other))
            self.assertEqual(left, step.back(size + 1, own_rise(later, size, other)))

    def check_groups(self, step, rests):
        """That the groups behind a step are the same, and that rows that go over keep their numbers."""
        for size in range(4):
            elder, later = rings(step.elder, size, rests=rests), rings(step.later, size, rests=rests)
            self.assertEqual(elder, later)
            for maker in elder.makers:
                over = step.forth(size, maker, rests=rests)
                homely = step.home.forth(size, over, rests=rests)
                self.assertEqual(elder.coordinates(homely), elder.coordinates(maker))
            elder, later = cuts(step.elder, size, rests=rests), cuts(step.later, size, rests=rests)
            self.assertEqual(elder, later)
            for maker in elder.makers:
                over = step.home.back(size, maker, rests=rests)
                again = step.back(size, over, rests=rests)
                self.assertEqual(elder.coordinates(again), elder.coordinates(maker))

    def check_products(self, step, rests):
        """Products of cuts led back by home, by the makers of the later web, have the numbers of the elder ones."""
        for size, high in ((0, 0), (0, 1), (1, 1), (1, 2), (0, 2)):
            elder, later = cuts(step.elder, size + high, rests=rests), cuts(step.later, size + high, rests=rests)
            for one in cuts(step.elder, size, rests=rests).makers[:2]:
                for two in cuts(step.elder, high, rests=rests).makers[:2]:
                    whole = cup(step.elder, size, one, high, two, rests=rests)
                    over = step.home.back(size + high, whole, rests=rests)
                    parts = step.home.back(size, one, rests=rests), step.home.back(high, two, rests=rests)
                    product = cup(step.later, size, parts[0], high, parts[1], rests=rests)
                    self.assertEqual(later.coordinates(product), later.coordinates(over))
                    again = elder.coordinates(step.back(size + high, product, rests=rests))
                    self.assertEqual(again, elder.coordinates(whole))


class FinerTest(StepsCase):
    def test_every_face_in_any_order(self):
        sizes = []
        for chance, faces, web in drawn_webs(801, 45):
            if least_fresh(faces) is None:
                continue
            candidates = [face for face in closed(faces) if len(face) > 1]
            for face in chance.sample(candidates, min(len(candidates), 6)):
                later, gone, fresh = own_finer(faces, face)
                order = tuple(chance.sample(face, len(face)))
                with self.subTest(faces=faces, face=order):
                    if len(later) > 120:
                        with self.assertRaises(errors.Full):
                            finer(web, order)
                        continue
                    leads = {point[0]: min(face) if point[0] == fresh else point[0] for point in of_size(later, 0)}
                    self.check(chance, faces, finer(web, order), later, gone, leads)
                    sizes.append(len(face) - 1)
        for size in (1, 2, 3):
            self.assertGreater(sizes.count(size), 10)

    def test_by_hand(self):
        step = finer(Web([(0, 1, 2), (1, 2, 4)]), (2, 1))
        self.assertEqual(step.later.tops(), [(0, 1, 3), (0, 2, 3), (1, 3, 4), (2, 3, 4)])
        self.assertEqual([step.home.image((point,)) for point in range(5)], [(0,), (1,), (2,), (1,), (4,)])
        # The stretch (1, 2) goes to (3, 2) and (1, 3), of which the first is told turned.
        stretches = step.elder.faces(1)
        row = [int(face == (1, 2)) for face in stretches]
        told = dict(zip(step.later.faces(1), step.forth(1, row)))
        self.assertEqual({face: told[face] for face in told if told[face]}, {(1, 3): 1, (2, 3): -1})
        self.assertEqual(step.forth(2, [5, 70]), [5, -5, 70, -70])
        self.assertEqual(step.back(2, [1, 10, 100, 1000]), [-9, -900])
        self.assertEqual(step.back(2, [1, 10, 100, 1000], rests=7), [5, 3])

    def test_the_least_point_that_is_not_there(self):
        for faces, fresh in (([(1, 2)], 0), ([(0, 2)], 1), ([(0, 1), (2, 3)], 4), ([(14, 15)], 0)):
            face = faces[0]
            step = finer(Web(faces), face)
            self.assertTrue(step.later.has((fresh,)))
            self.assertEqual(step.home.image((fresh,)), (min(face),))
        nearly = [(point,) for point in range(15)] + [(0, 1)]
        self.assertTrue(finer(Web(nearly), (0, 1)).later.has((15,)))

    def test_faces_that_are_not_there(self):
        for chance, faces, web in drawn_webs(802, 15):
            there = closed(faces)
            others = [tuple(chance.sample(range(16), chance.randint(1, 4))) for _ in range(10)]
            for face in NO_FACES + tuple(other for other in others if tuple(sorted(other)) not in there):
                for function in (finer, lesser):
                    with self.subTest(faces=faces, face=face), self.assertRaises(errors.NoFace):
                        function(web, face)

    def test_points(self):
        for chance, faces, web in drawn_webs(803, 15):
            for face in of_size(faces, 0):
                with self.assertRaises(errors.BadSize):
                    finer(web, face)

    def test_full(self):
        points = [(point,) for point in range(16)]
        for faces in (points + [(0, 1)], points + [(3, 4, 5)]):
            with self.assertRaises(errors.Full):
                finer(Web(faces), faces[-1])
        brim = list(itertools.combinations(range(15), 2))
        with self.assertRaises(errors.Full):
            finer(Web(brim), (3, 4))
        # Just 120 faces are let: one point and two stretches come, one stretch goes.
        for many in (103, 102):
            web = Web(brim[:many] + [(point,) for point in range(15)])
            if len(web) + 2 > 120:
                with self.assertRaises(errors.Full):
                    finer(web, (0, 1))
            else:
                self.assertEqual(len(finer(web, (0, 1)).later), len(web) + 2)
        self.assertEqual(len(finer(Web(brim[:103] + [(14,)]), (1, 0)).later), 120)
        with self.assertRaises(errors.Full):
            finer(Web(brim[:104] + [(14,)]), (1, 0))

    def test_the_order_of_refusals(self):
        full = Web([(point,) for point in range(16)])
        with self.assertRaises(errors.BadSize):
            finer(full, (3,))
        with self.assertRaises(errors.NoFace):
            finer(full, (3, 4))
        with self.assertRaises(errors.NoFace):
            finer(Web([(0, 1)]), (2,))

    def test_groups_and_products_behind_a_step(self):
        for chance, faces, web in drawn_webs(804, 12):
            candidates = [face for face in closed(faces) if len(face) > 1]
            if not candidates or least_fresh(faces) is None or len(closed(faces)) > 60:
                continue
            step = finer(web, chance.choice(candidates))
            for rests in (0, chance.choice((2, 3, 4, 6, 60))):
                self.check_groups(step, rests)
                self.check_products(step, rests)


class LesserTest(StepsCase):
    def test_every_free_face(self):
        sizes = []
        for chance, faces, web in drawn_webs(811, 25):
            free = free_faces(faces)
            for face in chance.sample(free, min(len(free), 6)):
                later, gone = own_lesser(faces, face)
                order = tuple(chance.sample(face, len(face)))
                with self.subTest(faces=faces, face=order):
                    leads = {point[0]: point[0] for point in of_size(later, 0)}
                    self.check(chance, faces, lesser(web, order), later, gone, leads)
                    sizes.append(len(face) - 1)
        for size in (0, 1, 2):
            self.assertGreater(sizes.count(size), 3)

    def test_by_hand(self):
        step = lesser(Web([(0, 1, 2), (2, 3)]), (1, 0))
        self.assertEqual(step.later.tops(), [(0, 2), (1, 2), (2, 3)])
        # (1, 2) - (0, 2) + (0, 1) is the border: (0, 1) goes to (0, 2) less (1, 2).
        self.assertEqual(step.forth(1, [5, 0, 0, 0]), [5, -5, 0])
        self.assertEqual(step.forth(1, [5, 10, 100, 1000]), [15, 95, 1000])
        self.assertEqual((step.forth(2, [9]), step.forth(3, [])), ([], []))
        self.assertEqual(step.back(1, [1, 10, 100]), [-9, 1, 10, 100])
        self.assertEqual(step.back(1, [1, 10, 100], rests=4), [3, 1, 2, 0])
        self.assertEqual(step.back(2, []), [0])
        point = lesser(Web([(0, 1, 2), (2, 3)]), (3,))
        self.assertEqual(point.later.tops(), [(0, 1, 2)])
        self.assertEqual(point.forth(0, [1, 10, 100, 1000]), [1, 10, 1100])
        self.assertEqual(point.back(0, [1, 10, 100]), [1, 10, 100, 100])

    def test_faces_that_are_not_free(self):
        for chance, faces, web in drawn_webs(812, 25):
            free = free_faces(faces)
            for face in closed(faces):
                if face not in free:
                    with self.subTest(faces=faces, face=face), self.assertRaises(errors.NotFree):
                        lesser(web, face[::-1])

    def test_groups_and_products_behind_a_lesser_step(self):
        for chance, faces, web in drawn_webs(813, 20):
            free = free_faces(faces)
            if free:
                step = lesser(web, chance.choice(free))
                for rests in (0, chance.choice((2, 3, 4, 6, 60))):
                    self.check_groups(step, rests)
                    self.check_products(step, rests)

    def test_finer_then_lesser(self):
        for chance, faces, web in drawn_webs(814, 10):
            if least_fresh(faces) is None or len(closed(faces)) > 60 or web.size() < 1:
                continue
            later = finer(web, chance.choice([face for face in closed(faces) if len(face) > 1])).later
            for face in free_faces(closed(later.tops()))[:3]:
                step = lesser(later, face)
                self.assertEqual(step.home.one, step.later)
                self.check_groups(step, 0)


class DownTest(StepsCase):
    def test_step_by_step(self):
        lengths = []
        for chance, faces, web in drawn_webs(821, 25):
            left = closed(faces)
            steps = drawn_down(web)
            self.assertIs(type(steps), list)
            lengths.append(len(steps))
            with self.subTest(faces=faces):
                for step in steps:
                    self.assertEqual(step.elder, Web(left))
                    later, gone = own_lesser(left, free_faces(left)[0])
                    leads = {point[0]: point[0] for point in of_size(later, 0)}
                    if chance.random() < 0.15:
                        self.check(chance, left, step, later, gone, leads)
                    self.assertEqual((step.later, type(step)), (Web(later), Step))
                    left = later
                self.assertEqual(free_faces(left), [])
        self.assertGreater(max(lengths), 10)

    def test_webs_without_free_faces(self):
        for faces in ([], [(4,)], wall(3), wall(4), wall(5), known_webs()["bent plane"]):
            self.assertEqual(drawn_down(Web(faces)), [])

    def test_one_face_goes_down_to_a_point(self):
        for face, many in (((0, 1), 1), ((3, 5, 7), 3), ((0, 1, 2, 3), 7)):
            steps = drawn_down(Web([face]))
            self.assertEqual(len(steps), many)
            self.assertEqual((len(steps[-1].later), steps[-1].later.size()), (1, 0))

    def test_the_first_face_in_the_order_of_tuples(self):
        web = Web([(0, 1, 2), (2, 3)])
        self.assertEqual(drawn_down(web)[0].later.tops(), [(0, 2), (1, 2), (2, 3)])
        web = Web([(0, 5), (0, 1, 2)])
        self.assertEqual(drawn_down(web)[0].later.tops(), [(0, 2), (0, 5), (1, 2)])

    def test_told_lists_are_new_ones(self):
        web = Web([(0, 1, 2, 3)])
        drawn_down(web).clear()
        self.assertEqual(len(drawn_down(web)), 7)


class RefusedTest(unittest.TestCase):
    def test_the_order_of_refusals(self):
        for step in (finer(Web([(0, 1, 2, 3), (3, 4)]), (1, 2)), lesser(Web([(0, 1, 2), (2, 3)]), (0, 1))):
            for function, web in ((step.forth, step.elder), (step.back, step.later)):
                for size, rests, row, word in refusals(lambda size: [1] * web.many(size)):
                    kept = list(row)
                    with self.subTest(function=function.__name__, size=size, rests=rests, row=row):
                        with self.assertRaises(getattr(errors, word)):
                            function(size, row, rests=rests)
                        self.assertEqual(row, kept)

    def test_every_rests(self):
        chance = random.Random(831)
        faces = [(0, 1, 2, 3), (1, 2, 4)]
        later, gone, fresh = own_finer(faces, (1, 2))
        step = finer(Web(faces), (1, 2))
        for rests in RESTS:
            for size in range(4):
                row, other = (some_row(chance, len(of_size(part, size))) for part in (faces, later))
                right = by_rests(own_over(faces, later, gone, size, row), rests)
                self.assertEqual(step.forth(size, row, rests=rests), right)
                right = by_rests(own_back(faces, later, gone, size, other), rests)
                self.assertEqual(step.back(size, other, rests=rests), right)

    def test_names_are_as_the_interface_tells(self):
        for name in ("forth", "back"):
            parameters = inspect.signature(vars(Step)[name]).parameters
            self.assertEqual(list(parameters), ["self", "size", "row", "rests"])
            rests = parameters["rests"]
            self.assertEqual((rests.kind, rests.default), (inspect.Parameter.KEYWORD_ONLY, 0))
        for function in (finer, lesser):
            self.assertEqual(list(inspect.signature(function).parameters), ["web", "face"])
        self.assertEqual(list(inspect.signature(drawn_down).parameters), ["web"])
        self.assertLessEqual({"elder", "later", "home"}, set(vars(finer(Web([(0, 1)]), (0, 1)))))


if __name__ == "__main__":
    unittest.main()

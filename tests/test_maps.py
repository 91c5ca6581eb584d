"""cupweb/maps.py: points 2, 4 and 13, and the interface's section of that name."""

import copy
import inspect
import itertools
import random
import unittest

from cupweb import errors
from cupweb.cups import cup
from cupweb.groups import cuts, rings
from cupweb.maps import Map, stays
from cupweb.web import Web
from drawn import (
    BENT_PLANE, RESTS, TWO_RINGS, by_rests, closed, known_webs, loop, of_size, own_border, own_led_back, own_rise,
    refusals, sign_of, some_faces, some_row, wall,
)


def own_forth(faces, others, leads, size, row):
    """The row led forth, by point 13."""
    told = {face: 0 for face in of_size(others, size)}
    for face, number in zip(of_size(faces, size), row, strict=True):
        led = [leads[point] for point in face]
        if sign_of(led):
            told[tuple(sorted(led))] += sign_of(led) * number
    return list(told.values())


def own_between(faces, others, leads, more, size, row):
    """The row between two maps, by point 13."""
    told = {face: 0 for face in of_size(others, size + 1)}
    for face, number in zip(of_size(faces, size), row, strict=True):
        for k in range(size + 1):
            led = [leads[point] for point in face[:k + 1]] + [more[point] for point in face[k:]]
            if sign_of(led):
                told[tuple(sorted(led))] += (1, -1)[k % 2] * sign_of(led) * number
    return list(told.values())


def led_to_none(faces, others, leads):
    """The number of the first face that is led to none, or None."""
    there = set(closed(others))
    ordered = [face for size in range(4) for face in of_size(faces, size)]
    for at, face in enumerate(ordered):
        if tuple(sorted({leads[point] for point in face})) not in there:
            return at
    return None


def some_leads(chance, faces, others):
    """Leads of the points of the faces to those of the others, or None where there are no such."""
    points, targets = [face[0] for face in of_size(faces, 0)], [face[0] for face in of_size(others, 0)]
    if not targets:
        return None if points else {}
    # A map into one face is always one; any points seldom are.
    if chance.random() < 0.7:
        targets = list(chance.choice(closed(others)))
    leads = {point: chance.choice(targets) for point in points}
    return leads


def some_pairs(chance, leads):
    pairs = list(leads.items())
    chance.shuffle(pairs)
    return pairs


def drawn_maps(seed, many):
    """(chance, faces, others, leads, the Map) of drawn webs, of known ones, and of one web to itself."""
    chance = random.Random(seed)
    told = []
    known = list(known_webs().values())
    while len(told) < many:
        faces = some_faces(chance, 6, chance.choice((4, 5, 8)))
        others = chance.choice([faces, some_faces(chance, 6, 6), chance.choice(known), [(2, 4, 7, 11)], wall(5)])
        if chance.random() < 0.2:
            faces = chance.choice(known)
        leads = some_leads(chance, faces, others)
        if leads is not None and led_to_none(faces, others, leads) is None:
            told.append((chance, faces, others, leads, Map(Web(faces), Web(others), some_pairs(chance, leads))))
    return told


def loops():
    """(faces, others, leads, the Map) of a loop of nine points around one of three, so many times."""
    told = []
    for times, way in itertools.product((1, 2, 3), (1, -1)):
        leads = {at: way * min(at, 3 * times - 1) % 3 if at < 3 * times else 0 for at in range(9)}
        told.append((loop(9), loop(3), leads, Map(Web(loop(9)), Web(loop(3)), list(leads.items()))))
    return told


class MadeTest(unittest.TestCase):
    def refused(self, word, at, faces, others, pairs):
        kept = list(pairs)
        with self.subTest(faces=faces, others=others, pairs=pairs):
            with self.assertRaises(getattr(errors, word)) as held:
                Map(Web(faces), Web(others), pairs)
            self.assertEqual(held.exception.at, at)
            self.assertEqual(pairs, kept)

    def test_pairs_that_are_not_just_one_for_each_point(self):
        for chance, faces, others, leads, led in drawn_maps(701, 60):
            pairs = some_pairs(chance, leads)
            for at in range(len(pairs)):
                self.refused("BadMap", -1, faces, others, pairs[:at] + pairs[at + 1:])
                self.refused("BadMap", -1, faces, others, pairs + [pairs[at]])
                self.refused("BadMap", -1, faces, others, [(pairs[at][0], chance.choice(pairs)[1])] + pairs)
                doubled = pairs[:at] + pairs[at + 1:] + [pairs[at - 1]]
                if len(pairs) > 1:
                    self.refused("BadMap", -1, faces, others, doubled)
            absent = [point for point in (-1, 16, 10 ** 29, *range(16)) if point not in leads]
            for point in absent[:3] + absent[-2:]:
                to = of_size(others, 0)[0][0] if others else 0
                self.refused("BadMap", -1, faces, others, pairs + [(point, to)])
                if pairs:
                    self.refused("BadMap", -1, faces, others, pairs[1:] + [(point, to)])

    def test_points_that_the_other_has_not(self):
        for chance, faces, others, leads, led in drawn_maps(702, 60):
            there = [face[0] for face in of_size(others, 0)]
            absent = [point for point in (-1, 16, 99, *range(16)) if point not in there]
            pairs = some_pairs(chance, leads)
            for at in range(len(pairs)):
                for point in absent[:2] + absent[-1:]:
                    self.refused("BadMap", -1, faces, others, pairs[:at] + [(pairs[at][0], point)] + pairs[at + 1:])

    def test_faces_that_are_led_to_none(self):
        chance = random.Random(703)
        ats = []
        while len(ats) < 300:
            faces, others = some_faces(chance, 8, 8), some_faces(chance, 8, 6)
            there = [face[0] for face in of_size(others, 0)]
            if not there:
                continue
            targets = chance.sample(there, min(len(there), chance.randint(2, 5)))
            leads = {face[0]: chance.choice(targets) for face in of_size(faces, 0)}
            at = led_to_none(faces, others, leads)
            if at is not None:
                ats.append(at)
                self.refused("NotFace", at, faces, others, some_pairs(chance, leads))
        self.assertGreater(len(set(ats)), 10)

    def test_faces_are_counted_by_sizes(self):
        # Of the triangles none is there: all six points and all seven stretches are counted ahead of them.
        wall_of_ends = list(itertools.combinations(range(3, 6), 2))
        faces = [(0, 1, 2), (2, 3), (3, 4, 5)]
        pairs = [(0, 3), (1, 4), (2, 5), (3, 5), (4, 5), (5, 5)]
        self.refused("NotFace", 6 + 7, faces, wall_of_ends, pairs)
        # Here the second of the stretches is not there, though the first triangle stands ahead of it in order.
        self.refused("NotFace", 6 + 1, faces, [(3, 4), (4, 5)], pairs)

    def test_bad_map_goes_ahead(self):
        self.refused("BadMap", -1, [(0, 1)], [(0,), (1,)], [(0, 0), (1, 1), (2, 2)])
        self.refused("NotFace", 2, [(0, 1)], [(0,), (1,)], [(0, 0), (1, 1)])
        self.refused("BadMap", -1, [(0, 1)], [], [(0, 0), (1, 1)])
        self.refused("BadMap", -1, [(0, 1)], [(0, 1)], [])
        self.refused("BadMap", -1, [], [(0, 1)], [(0, 0)])

    def test_webs_without_faces(self):
        for others in ([], [(0, 1)]):
            led = Map(Web(), Web(others), [])
            self.assertEqual((led.one, led.other), (Web(), Web(others)))
            self.assertEqual(led.forth(1, []), [0] * len(of_size(others, 1)))
            self.assertEqual(led.back(1, [5] * len(of_size(others, 1))), [])
            self.assertIs(led.keeps_order(), True)

    def test_pairs_handed_in_stay_and_are_not_kept(self):
        for chance, faces, others, leads, led in drawn_maps(704, 40):
            pairs = some_pairs(chance, leads)
            kept = list(pairs)
            made = Map(Web(faces), Web(others), pairs)
            self.assertEqual(pairs, kept)
            pairs.append((3, 4))
            pairs[0] = (77, 78)
            pairs.clear()
            self.assertEqual(made, led)
            for face in closed(faces):
                self.assertEqual(made.image(face), tuple(sorted({leads[point] for point in face})))


class LedTest(unittest.TestCase):
    def check(self, chance, faces, others, leads, led, size, rests, figures=25):
        row, other = (some_row(chance, len(of_size(part, size)), figures) for part in (faces, others))
        kept = list(row), list(other)
        with self.subTest(faces=faces, others=others, leads=leads, size=size, rests=rests, row=row, other=other):
            forth = by_rests(own_forth(faces, others, leads, size, row), rests)
            back = by_rests(own_led_back(faces, others, leads, size, other), rests)
            for _ in range(2):
                told = led.forth(size, row, rests=rests)
                self.assertEqual(told, forth)
                told.append(3)
                told = led.back(size, other, rests=rests)
                self.assertEqual(told, back)
                told.append(3)
            self.assertEqual((row, other), kept)
            if not rests:
                self.assertEqual((led.forth(size, row), led.back(size, other)), (forth, back))
                one = sum(a * b for a, b in zip(forth, other, strict=True))
                self.assertEqual(one, sum(a * b for a, b in zip(row, back, strict=True)))

    def test_image(self):
        for chance, faces, others, leads, led in drawn_maps(711, 80):
            self.assertEqual((led.one, led.other), (Web(faces), Web(others)))
            for face in closed(faces):
                right = tuple(sorted({leads[point] for point in face}))
                for order in (face, face[::-1]):
                    self.assertEqual(led.image(order), right)

    def test_by_hand(self):
        led = Map(Web([(0, 1, 2)]), Web([(4, 5, 6)]), [(0, 6), (1, 4), (2, 5)])
        self.assertEqual(led.forth(0, [1, 10, 100]), [10, 100, 1])
        self.assertEqual(led.forth(1, [1, 10, 100]), [100, -1, -10])
        self.assertEqual(led.forth(2, [7]), [7])
        self.assertEqual(led.back(1, [1, 10, 100]), [-10, -100, 1])
        self.assertEqual(led.back(1, [1, 10, 100], rests=60), [50, 20, 1])
        turned = Map(Web([(0, 1, 2)]), Web([(4, 5, 6)]), [(0, 5), (1, 4), (2, 6)])
        self.assertEqual((turned.forth(2, [7]), turned.back(2, [7], rests=5)), ([-7], [3]))
        flat = Map(Web([(0, 1, 2)]), Web([(4, 5)]), [(0, 5), (1, 4), (2, 5)])
        self.assertEqual((flat.forth(1, [1, 10, 100]), flat.forth(2, [7])), ([99], []))
        self.assertEqual((flat.back(1, [3]), flat.back(2, [])), ([-3, 0, 3], [0]))

    def test_drawn_rows(self):
        for chance, faces, others, leads, led in drawn_maps(712, 100):
            for size in range(4):
                for rests in (0, chance.choice(RESTS)):
                    self.check(chance, faces, others, leads, led, size, rests)

    def test_every_rests(self):
        chance = random.Random(713)
        faces, others, leads = [(0, 1, 2, 3), (3, 4)], [(5, 6, 7, 8)], {0: 7, 1: 5, 2: 8, 3: 6, 4: 6}
        led = Map(Web(faces), Web(others), list(leads.items()))
        for rests in RESTS:
            for size in range(4):
                self.check(chance, faces, others, leads, led, size, rests)

    def test_forth_and_back_with_borders_and_rises(self):
        for chance, faces, others, leads, led in drawn_maps(714, 80):
            for size in range(4):
                row, other = (some_row(chance, len(of_size(part, size)), 9) for part in (faces, others))
                if size > 0:
                    left = own_border(others, size, led.forth(size, row))
                    self.assertEqual(left, led.forth(size - 1, own_border(faces, size, row)))
                if size < 3:
                    left = own_rise(faces, size, led.back(size, other))
                    self.assertEqual(left, led.back(size + 1, own_rise(others, size, other)))

    def test_a_loop_around_a_loop(self):
        for (times, way), (faces, others, leads, led) in zip(itertools.product((1, 2, 3), (1, -1)), loops()):
            row = [-1 if face == (0, 8) else 1 for face in of_size(faces, 1)]
            self.assertFalse(any(own_border(faces, 1, row)))
            self.assertEqual(led.forth(1, row), [way * times, -way * times, way * times])


class ThenTest(unittest.TestCase):
    def test_one_map_behind_the_other(self):
        for chance, faces, others, leads, led in drawn_maps(721, 60):
            last = chance.choice([faces, [(0, 1, 2, 3)], BENT_PLANE, [(4, 9)]]) or [(1,)]
            more = some_leads(chance, others, last)
            if led_to_none(others, last, more) is not None:
                more = {point: last[0][0] for point in more}
            later = Map(Web(others), Web(last), some_pairs(chance, more))
            both = led.then(later)
            right = {point: more[leads[point]] for point in leads}
            self.assertEqual(both, Map(Web(faces), Web(last), some_pairs(chance, right)))
            self.assertEqual((both.one, both.other), (Web(faces), Web(last)))
            for size in range(4):
                row, other = some_row(chance, len(of_size(faces, size))), some_row(chance, len(of_size(last, size)))
                self.assertEqual(both.forth(size, row), later.forth(size, led.forth(size, row)))
                self.assertEqual(both.back(size, other), led.back(size, later.back(size, other)))

    def test_unlike_webs(self):
        for chance, faces, others, leads, led in drawn_maps(722, 60):
            for web in (Web(), Web([(0, 1), (15,)]), Web(others + [(13,), (12, 14)])):
                if web != led.other:
                    with self.assertRaises(errors.Unlike):
                        led.then(stays(web))
            self.assertEqual(led.then(stays(Web(closed(others)))), led)
            self.assertEqual(stays(led.one).then(led), led)


class OrderTest(unittest.TestCase):
    def test_keeps_order(self):
        answers = []
        for chance, faces, others, leads, led in drawn_maps(731, 200) + [(None, *part) for part in loops()]:
            right = all(leads[low] <= leads[high] for low, high in of_size(faces, 1))
            self.assertIs(led.keeps_order(), right)
            answers.append(right)
        self.assertGreater(answers.count(True), 20)
        self.assertGreater(answers.count(False), 20)

    def test_only_points_of_stretches_count(self):
        led = Map(Web([(0, 1), (2,)]), Web([(3, 4), (1,)]), [(0, 3), (1, 4), (2, 1)])
        self.assertIs(led.keeps_order(), True)
        self.assertIs(Map(led.one, led.other, [(0, 4), (1, 3), (2, 1)]).keeps_order(), False)
        self.assertIs(Map(led.one, led.other, [(0, 4), (1, 4), (2, 1)]).keeps_order(), True)

    def test_products_led_back(self):
        many = 0
        for chance, faces, others, leads, led in drawn_maps(732, 300):
            if led.keeps_order() and len(set(leads.values())) > 1:
                many += 1
                for size, high in itertools.product(range(4), repeat=2):
                    rests = chance.choice((0, chance.choice(RESTS)))
                    one, two = (some_row(chance, len(of_size(others, at)), 9) for at in (size, high))
                    if size + high > 3:
                        continue
                    left = led.back(size + high, cup(led.other, size, one, high, two, rests=rests), rests=rests)
                    right = cup(led.one, size, led.back(size, one), high, led.back(high, two), rests=rests)
                    self.assertEqual(left, right)
        self.assertGreater(many, 20)


class NearTest(unittest.TestCase):
    def drawn_pairs(self, seed, many):
        """(chance, faces, others, leads, more, one Map, another one) of the same webs."""
        told = []
        for chance, faces, others, leads, led in drawn_maps(seed, many):
            more = dict(leads) if chance.random() < 0.6 else some_leads(chance, faces, others)
            for point in chance.sample(sorted(more), min(len(more), chance.randint(0, 3))):
                more[point] = chance.choice(of_size(others, 0))[0]
            if led_to_none(faces, others, more) is None:
                other = Map(Web(faces), Web(others), some_pairs(chance, more))
                told.append((chance, faces, others, leads, more, led, other))
        return told

    def test_near(self):
        answers = []
        for chance, faces, others, leads, more, led, other in self.drawn_pairs(741, 700):
            there = set(closed(others))
            both = [
                tuple(sorted({leads[point] for point in face} | {more[point] for point in face}))
                for face in closed(faces)
            ]
            right = all(face in there for face in both)
            self.assertIs(led.near(other), right)
            self.assertIs(other.near(led), right)
            self.assertIs(led.near(led), True)
            answers.append(right)
        self.assertGreater(answers.count(True), 20)
        self.assertGreater(answers.count(False), 20)

    def test_other_webs_are_not_near(self):
        one, other = Web([(0, 1)]), Web([(0, 1), (2,)])
        for first, second in itertools.product((one, other), repeat=2):
            led = Map(first, second, [(face[0], 0) for face in first.faces(0)])
            for third, fourth in itertools.product((one, other), repeat=2):
                more = Map(third, fourth, [(face[0], 0) for face in third.faces(0)])
                self.assertIs(led.near(more), (first, second) == (third, fourth))

    def test_between(self):
        many = 0
        for chance, faces, others, leads, more, led, other in self.drawn_pairs(742, 200):
            if led.near(other):
                many += leads != more
                for size in range(4):
                    for rests in (0, chance.choice(RESTS)):
                        self.check(chance, faces, others, leads, more, led, other, size, rests)
        self.assertGreater(many, 20)

    def check(self, chance, faces, others, leads, more, led, other, size, rests):
        row = some_row(chance, len(of_size(faces, size)))
        kept = list(row)
        right = own_between(faces, others, leads, more, size, row)
        with self.subTest(faces=faces, others=others, leads=leads, more=more, size=size, row=row, rests=rests):
            self.assertEqual(led.between(other, size, row, rests=rests), by_rests(right, rests))
            self.assertEqual(row, kept)
            if rests:
                return
            told = led.between(other, size, row)
            self.assertEqual(told, right)
            left = own_border(others, size + 1, told)
            if size:
                lower = own_between(faces, others, leads, more, size - 1, own_border(faces, size, row))
                self.assertEqual(led.between(other, size - 1, own_border(faces, size, row)), lower)
                left = [one + two for one, two in zip(left, lower, strict=True)]
            second, first = other.forth(size, row), led.forth(size, row)
            if size < 3:
                self.assertEqual(left, [one - two for one, two in zip(second, first, strict=True)])

    def test_near_maps_have_the_same_rings_and_cuts(self):
        for chance, faces, others, leads, more, led, other in self.drawn_pairs(743, 60):
            if led.near(other):
                for size in range(4):
                    group = rings(led.other, size)
                    for maker in rings(led.one, size).makers:
                        one, two = led.forth(size, maker), other.forth(size, maker)
                        self.assertEqual(group.coordinates(one), group.coordinates(two))
                    group = cuts(led.one, size)
                    for maker in cuts(led.other, size).makers:
                        one, two = led.back(size, maker), other.back(size, maker)
                        self.assertEqual(group.coordinates(one), group.coordinates(two))

    def test_not_near(self):
        web = Web(loop(4))
        one, other = stays(web), Map(web, web, [(0, 2), (1, 1), (2, 2), (3, 3)])
        self.assertIs(one.near(other), False)
        for size in range(4):
            row = [1] * web.many(size)
            with self.assertRaises(errors.NotNear):
                one.between(other, size, row)
            with self.assertRaises(errors.NotNear):
                one.between(stays(Web([(0, 1)])), size, row, rests=7)
            self.assertEqual(row, [1] * web.many(size))


class AlikeTest(unittest.TestCase):
    def equal(self, one, other, right):
        for first, second in ((one, other), (other, one)):
            self.assertIs(first == second, right)
            self.assertIs(first != second, not right)

    def test_the_same_pairs_in_another_order(self):
        for chance, faces, others, leads, led in drawn_maps(751, 80):
            self.equal(led, Map(Web(closed(faces)), Web(others[::-1]), some_pairs(chance, leads)), True)
            self.equal(led, led, True)

    def test_other_maps(self):
        drawn = drawn_maps(752, 60)
        for (chance, faces, others, leads, led), part in itertools.product(drawn, drawn[::4]):
            same = closed(faces) == closed(part[1]) and closed(others) == closed(part[2]) and leads == part[3]
            self.equal(led, part[4], same)

    def test_one_pair_or_one_web_another(self):
        web = Web([(0, 1, 2)])
        led = stays(web)
        self.equal(led, Map(web, web, [(0, 0), (1, 1), (2, 1)]), False)
        self.equal(led, Map(web, Web([(0, 1, 2), (3,)]), [(0, 0), (1, 1), (2, 2)]), False)
        self.equal(led, Map(Web(wall(3)), web, [(0, 0), (1, 1), (2, 2)]), False)
        self.equal(led, Map(web, web, [(2, 2), (1, 1), (0, 0)]), True)

    def test_other_things(self):
        for thing in (None, 0, [], [(0, 0)], {0: 0}, Web([(0,)]), object()):
            self.equal(stays(Web([(0,)])), thing, False)

    def test_stays(self):
        for faces in known_webs().values():
            led = stays(Web(faces))
            self.assertIs(type(led), Map)
            self.assertEqual((led.one, led.other), (Web(faces), Web(faces)))
            self.assertEqual(led, Map(Web(faces), Web(faces), [face * 2 for face in of_size(faces, 0)]))
            for size in range(4):
                row = list(range(len(of_size(faces, size))))
                self.assertEqual((led.forth(size, row), led.back(size, row)), (row, row))
                self.assertEqual(led.between(led, size, row), [0] * len(of_size(faces, size + 1)))
            self.assertIs(led.keeps_order(), True)


class RefusedTest(unittest.TestCase):
    def test_the_order_of_refusals(self):
        faces, others = [(0, 1, 2), (2, 3)], [(0, 1, 2, 3), (4,), (3, 4)]
        led = Map(Web(faces), Web(others), [(0, 0), (1, 1), (2, 2), (3, 3)])
        # Not near, and of another web: what point 4 refuses goes ahead of it.
        far = Map(Web(faces), Web(others), [(point, 4) for point in range(4)])
        for other in (led, far, stays(Web())):
            for size, rests, row, word in refusals(lambda size: [1] * len(of_size(faces, size))):
                self.refused(word, led.between, other, size, row, rests=rests)
        for size, rests, row, word in refusals(lambda size: [1] * len(of_size(faces, size))):
            self.refused(word, led.forth, size, row, rests=rests)
        for size, rests, row, word in refusals(lambda size: [1] * len(of_size(others, size))):
            self.refused(word, led.back, size, row, rests=rests)

    def refused(self, word, function, *handed, rests):
        row = copy.copy(handed[-1])
        with self.subTest(function=function.__name__, handed=handed, rests=rests):
            with self.assertRaises(getattr(errors, word)):
                function(*handed, rests=rests)
            self.assertEqual(handed[-1], row)

    def test_an_image_of_points_that_are_not_there(self):
        led = stays(Web(TWO_RINGS))
        for face in ((7,), (0, 9), (-1,), (16, 0)):
            with self.assertRaises(errors.NoFace):
                led.image(face)

    def test_names_are_as_the_interface_tells(self):
        for name, wished in (
            ("__init__", "one other pairs"), ("image", "face"), ("forth", "size row rests"), ("back", "size row rests"),
            ("then", "later"), ("keeps_order", ""), ("near", "other"), ("between", "other size row rests"),
            ("__eq__", "other"),
        ):
            parameters = inspect.signature(vars(Map)[name]).parameters
            self.assertEqual(list(parameters)[1:], wished.split())
            if "rests" in parameters:
                rests = parameters["rests"]
                self.assertEqual((rests.kind, rests.default), (inspect.Parameter.KEYWORD_ONLY, 0))
        self.assertEqual(list(inspect.signature(stays).parameters), ["web"])
        self.assertLessEqual({"one", "other"}, set(vars(stays(Web()))))


if __name__ == "__main__":
    unittest.main()

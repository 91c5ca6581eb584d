"""cupweb/cross.py: points 2, 4, 15 and 16, and the interface's section of that name."""

import copy
import functools
import inspect
import itertools
import random
import unittest

from cupweb import errors
from cupweb.cross import Cross, beside, coned
from cupweb.groups import rings
from cupweb.maps import Map
from cupweb.web import Web
from drawn import (
    RESTS, by_rests, closed, known_webs, loop, of_size, own_border, refusals, some_faces, some_row, wall,
)

# Few points: the pairs of two of these are at most sixteen.
SMALL = (
    [], [(0,)], [(7,)], [(0,), (15,)], [(0, 1)], [(3, 9)], [(0, 1), (2,)], [(0, 1), (1, 2)], loop(3), loop(4),
    [(0, 1, 2)], [(2, 5, 11)], [(0, 1, 2), (2, 3)], wall(4), [(1, 4, 9, 15)], [(0,), (1,), (2,), (3,)],
    [(0, 1), (1, 2), (2, 3), (3, 4)], [(0, 1), (2, 3)],
)


def size_of(faces):
    return max((len(face) - 1 for face in faces), default=-1)


def own_pairs(faces, others):
    return [(low[0], high[0]) for low in of_size(faces, 0) for high in of_size(others, 0)]


def own_made(faces, others):
    """All rising rows of pairs over a face and a face, as tuples of numbers, by point 15."""
    return list(told_once(tuple(faces), tuple(others)))


@functools.cache
def told_once(faces, others):
    pairs = own_pairs(faces, others)
    firsts, seconds = set(closed(faces)), set(closed(others))
    told = []
    for many in range(1, 5):
        for row in itertools.combinations(range(len(pairs)), many):
            led = [pairs[at] for at in row]
            rises = all(one[0] <= two[0] and one[1] <= two[1] for one, two in zip(led, led[1:]))
            if rises and tuple(sorted({pair[0] for pair in led})) in firsts:
                if tuple(sorted({pair[1] for pair in led})) in seconds:
                    told.append(row)
    return sorted(told)


def own_ways(low, high):
    """(the pairs of a way, its sign) for two faces, by point 15."""
    size, more = len(low) - 1, len(high) - 1
    for firsts in itertools.combinations(range(size + more), size):
        steps = [0 if at in firsts else 1 for at in range(size + more)]
        turned = sum(steps[one] == 1 and steps[two] == 0 for one, two in itertools.combinations(range(len(steps)), 2))
        places, way = [0, 0], [(low[0], high[0])]
        for step in steps:
            places[step] += 1
            way.append((low[places[0]], high[places[1]]))
        yield way, (1, -1)[turned % 2]


def own_across(faces, others, size, row, high, more):
    pairs = own_pairs(faces, others)
    told = {face: 0 for face in own_made(faces, others) if len(face) == size + high + 1}
    for (low, number), (over, times) in itertools.product(
        zip(of_size(faces, size), row, strict=True), zip(of_size(others, high), more, strict=True)
    ):
        for way, sign in own_ways(low, over):
            told[tuple(pairs.index(pair) for pair in way)] += sign * number * times
    return list(told.values())


def own_apart(faces, others, size, row):
    pairs = own_pairs(faces, others)
    made = [face for face in own_made(faces, others) if len(face) == size + 1]
    tables = []
    for at in range(size + 1):
        firsts, seconds = of_size(faces, at), of_size(others, size - at)
        table = [[0] * len(seconds) for _ in firsts]
        for face, number in zip(made, row, strict=True):
            front = tuple(pairs[point][0] for point in face[:at + 1])
            back = tuple(pairs[point][1] for point in face[at:])
            if front in firsts and back in seconds:
                table[firsts.index(front)][seconds.index(back)] += number
        tables.append(table)
    return tables


def drawn_pairs(seed, many=20):
    """(chance, faces, others, the Cross) of webs that can be multiplied."""
    chance = random.Random(seed)
    told = []
    for faces, others in list(itertools.product(SMALL, SMALL)) + [
        (some_faces(chance, 4, 4), some_faces(chance, 3, 4)) for _ in range(many)
    ]:
        points = len(of_size(faces, 0)) * len(of_size(others, 0))
        if size_of(faces) + size_of(others) <= 3 and points <= 16 and len(own_made(faces, others)) <= 120:
            told.append((chance, faces, others, Cross(Web(faces), Web(others))))
    return told


class MadeTest(unittest.TestCase):
    def test_pairs_faces_and_maps(self):
        for chance, faces, others, cross in drawn_pairs(901):
            with self.subTest(faces=faces, others=others):
                pairs = own_pairs(faces, others)
                self.assertEqual(cross.pairs, pairs)
                self.assertIs(type(cross.pairs), list)
                self.assertEqual(cross.made, Web(own_made(faces, others)))
                self.assertEqual(len(cross.made), len(own_made(faces, others)))
                firsts, seconds = ([(at, pair[place]) for at, pair in enumerate(pairs)] for place in (0, 1))
                self.assertEqual(cross.first, Map(cross.made, Web(faces), firsts))
                self.assertEqual(cross.second, Map(cross.made, Web(others), seconds))
                for face in own_made(faces, others):
                    self.assertEqual(cross.first.image(face), tuple(sorted({pairs[point][0] for point in face})))
                    self.assertEqual(cross.second.image(face), tuple(sorted({pairs[point][1] for point in face})))

    def test_by_hand(self):
        cross = Cross(Web([(4, 7)]), Web([(2, 5)]))
        self.assertEqual(cross.pairs, [(4, 2), (4, 5), (7, 2), (7, 5)])
        self.assertEqual(cross.made.tops(), [(0, 1, 3), (0, 2, 3)])
        self.assertEqual((cross.first.image((0, 2)), cross.second.image((0, 2))), ((4, 7), (2,)))
        self.assertEqual(cross.across(1, [1], 1, [1]), [-1, 1])
        self.assertEqual(cross.across(0, [3, 10], 1, [2]), [6, 0, 0, 0, 20])
        self.assertEqual(cross.apart(2, [5, 7]), [[[], []], [[7]], []])
        self.assertEqual(cross.apart(1, [1, 2, 4, 8, 16]), [[[1 + 4], [16]], [[2, 4 + 8]]])
        self.assertEqual(cross.apart(1, [1, 2, 4, 8, 16], rests=3), [[[2], [1]], [[2, 0]]])

    def test_a_web_of_five_points_by_four(self):
        with self.assertRaises(errors.Full):
            Cross(Web([(point,) for point in range(5)]), Web([(point,) for point in range(4)]))
        with self.assertRaises(errors.Full):
            Cross(Web(loop(5)), Web(loop(4)))
        self.assertEqual(len(Cross(Web(loop(4)), Web(loop(4))).made), 16 + 48 + 32)
        with self.assertRaises(errors.Full):
            Cross(Web([(point,) for point in range(16)]), Web([(0,), (1,)]))
        whole = Web(list(itertools.combinations(range(15), 2)))
        self.assertEqual(Cross(whole, Web([(9,)])).made, whole)
        self.assertEqual(Cross(Web([(9,)]), whole).made, whole)
        self.assertEqual(Cross(whole, Web()).made, Web())

    def test_more_than_120_faces(self):
        words = []
        candidates = [wall(4), [(0, 1, 2), (0, 1, 3), (1, 2, 3)], [(0, 1, 2), (2, 3)], loop(4), [(0, 1), (1, 2), (1, 3)]]
        candidates += [list(itertools.combinations(range(4), 2)), loop(3), [(0, 1)], [(0, 1), (1, 2)], [(0, 1, 2)]]
        for faces, others in itertools.product(candidates, candidates):
            if size_of(faces) + size_of(others) <= 3:
                if len(own_made(faces, others)) > 120:
                    words.append("Full")
                    with self.assertRaises(errors.Full):
                        Cross(Web(faces), Web(others))
                else:
                    words.append("let")
                    self.assertEqual(Cross(Web(faces), Web(others)).made, Web(own_made(faces, others)))
        self.assertEqual(set(words), {"Full", "let"})

    def test_sizes_beyond_three(self):
        known = {-1: [], 0: [(0,)], 1: [(0, 1)], 2: [(0, 1, 2)], 3: [(0, 1, 2, 3)]}
        for one, other in itertools.product(known, known):
            if one + other > 3:
                with self.assertRaises(errors.BadSize):
                    Cross(Web(known[one]), Web(known[other]))
            else:
                Cross(Web(known[one]), Web(known[other]))

    def test_bad_size_goes_ahead_of_full(self):
        points = [(point,) for point in range(4, 16)]
        with self.assertRaises(errors.BadSize):
            Cross(Web([(0, 1, 2)] + points), Web([(0, 1, 2)] + points))
        with self.assertRaises(errors.BadSize):
            Cross(Web([(0, 1, 2, 3)] + points), Web([(0, 1)] + points))

    def test_the_groups_of_two_loops(self):
        cross = Cross(Web(loop(3)), Web(loop(3)))
        self.assertEqual([rings(cross.made, size).orders for size in range(4)], [[0], [0, 0], [0], []])


class RowsTest(unittest.TestCase):
    def test_across(self):
        for chance, faces, others, cross in drawn_pairs(911):
            for size, high in itertools.product(range(4), range(4)):
                for rests in (0, chance.choice(RESTS)):
                    row = some_row(chance, len(of_size(faces, size)))
                    more = some_row(chance, len(of_size(others, high)))
                    kept = list(row), list(more)
                    right = by_rests(own_across(faces, others, size, row, high, more), rests)
                    with self.subTest(faces=faces, others=others, size=size, row=row, high=high, more=more, rests=rests):
                        told = cross.across(size, row, high, more, rests=rests)
                        self.assertEqual(told, right)
                        told.append(7)
                        self.assertEqual(cross.across(size, row, high, more, rests=rests), right)
                        self.assertEqual((row, more), kept)
                        if not rests:
                            self.assertEqual(cross.across(size, row, high, more), right)

    def test_the_border_of_a_crossed_row(self):
        for chance, faces, others, cross in drawn_pairs(912):
            made = own_made(faces, others)
            for size, high in itertools.product(range(4), range(4)):
                if 1 <= size + high <= 3:
                    row = some_row(chance, len(of_size(faces, size)), 5)
                    more = some_row(chance, len(of_size(others, high)), 5)
                    right = [0] * len(of_size(made, size + high - 1))
                    if size:
                        part = cross.across(size - 1, own_border(faces, size, row), high, more)
                        right = [one + two for one, two in zip(right, part, strict=True)]
                    if high:
                        part = cross.across(size, row, high - 1, own_border(others, high, more))
                        right = [one + (1, -1)[size % 2] * two for one, two in zip(right, part, strict=True)]
                    told = cross.across(size, row, high, more)
                    self.assertEqual(own_border(made, size + high, told), right)

    def test_apart(self):
        for chance, faces, others, cross in drawn_pairs(913):
            for size in range(4):
                for rests in (0, chance.choice(RESTS)):
                    row = some_row(chance, len(of_size(own_made(faces, others), size)))
                    kept = list(row)
                    right = own_apart(faces, others, size, row)
                    right = [[by_rests(line, rests) for line in table] for table in right]
                    with self.subTest(faces=faces, others=others, size=size, row=row, rests=rests):
                        told = cross.apart(size, row, rests=rests)
                        self.assertEqual(told, right)
                        self.assertEqual(row, kept)
                        for table in told:
                            for line in table:
                                line.append(3)
                            table.append([4])
                        told.clear()
                        self.assertEqual(cross.apart(size, row, rests=rests), right)
                        if not rests:
                            self.assertEqual(cross.apart(size, row), right)

    def test_crossed_rows_are_told_apart_again(self):
        for chance, faces, others, cross in drawn_pairs(914):
            for size, high in itertools.product(range(4), range(4)):
                if size + high <= 3:
                    row = some_row(chance, len(of_size(faces, size)))
                    more = some_row(chance, len(of_size(others, high)))
                    for at, table in enumerate(cross.apart(size + high, cross.across(size, row, high, more))):
                        if at == size:
                            self.assertEqual(table, [[number * times for times in more] for number in row])
                        else:
                            self.assertFalse(any(any(line) for line in table))

    def test_every_rests(self):
        chance = random.Random(915)
        faces, others = [(0, 1, 2)], [(3, 5)]
        cross = Cross(Web(faces), Web(others))
        for rests in RESTS:
            for size, high in itertools.product(range(3), range(2)):
                row = some_row(chance, len(of_size(faces, size)))
                more = some_row(chance, len(of_size(others, high)))
                right = by_rests(own_across(faces, others, size, row, high, more), rests)
                self.assertEqual(cross.across(size, row, high, more, rests=rests), right)
            for size in range(4):
                row = some_row(chance, cross.made.many(size))
                right = [[by_rests(line, rests) for line in table] for table in own_apart(faces, others, size, row)]
                self.assertEqual(cross.apart(size, row, rests=rests), right)

    def test_what_a_holder_does_with_the_pairs_changes_nothing(self):
        cross = Cross(Web([(0, 1)]), Web([(0, 1)]))
        cross.pairs.reverse()
        cross.pairs.append((5, 5))
        self.assertEqual(cross.across(1, [1], 1, [1]), [-1, 1])
        self.assertEqual(Cross(Web([(0, 1)]), Web([(0, 1)])).pairs, [(0, 0), (0, 1), (1, 0), (1, 1)])


class BesideTest(unittest.TestCase):
    def test_drawn_webs(self):
        chance = random.Random(921)
        words = []
        webs = [[], [(0,)], [(15,)], [(0, 1, 2, 3)]] + list(known_webs().values())
        webs += [some_faces(chance, chance.choice((3, 8)), chance.choice((4, 5, 6, 8, 16))) for _ in range(25)]
        for faces, others in itertools.product(webs, webs):
            by = max((max(face) + 1 for face in faces), default=0)
            raised = [tuple(point + by for point in face) for face in others]
            points = max((max(face) for face in raised), default=0)
            with self.subTest(faces=faces, others=others):
                if points > 15 or len(closed(faces)) + len(closed(others)) > 120:
                    words.append("Full")
                    with self.assertRaises(errors.Full):
                        beside(Web(faces), Web(others))
                else:
                    words.append("let")
                    told = beside(Web(faces), Web(others))
                    self.assertEqual((type(told), told), (tuple, (Web(faces + raised), by)))
        self.assertGreater(words.count("Full"), 100)
        self.assertGreater(words.count("let"), 100)

    def test_at_the_bounds(self):
        sixty = [face for face in itertools.combinations(range(8), 3)][:40]
        while len(closed(sixty)) > 60:
            sixty.pop()
        many = len(closed(sixty))
        self.assertGreater(many, 55)
        both, by = beside(Web(sixty), Web(sixty))
        self.assertEqual((len(both), by), (2 * many, max(max(face) for face in sixty) + 1))
        self.assertEqual(beside(Web([(7,)]), Web([(7,)])), (Web([(7,), (15,)]), 8))
        for one, other in (([(8,)], [(7,)]), ([(7,)], [(8,)]), ([(15,)], [(0,)]), ([(0,)], [(15,)])):
            with self.assertRaises(errors.Full):
                beside(Web(one), Web(other))
        self.assertEqual(beside(Web([(15,)]), Web()), (Web([(15,)]), 16))
        self.assertEqual(beside(Web(), Web([(15,)])), (Web([(15,)]), 0))
        self.assertEqual(beside(Web(), Web()), (Web(), 0))

    def test_more_than_120_faces(self):
        full = list(itertools.combinations(range(8), 3))
        more = list(itertools.combinations(range(7), 2))
        self.assertEqual((len(closed(full)), len(closed(more))), (92, 28))
        self.assertEqual(len(beside(Web(full), Web(more))[0]), 120)
        self.assertEqual(len(beside(Web(more), Web(full))[0]), 120)
        for one, other in ((full, more + [(0, 1, 2)]), (more + [(7,)], full)):
            with self.assertRaises(errors.Full):
                beside(Web(one), Web(other))


class ConedTest(unittest.TestCase):
    def test_drawn_webs(self):
        chance = random.Random(931)
        words = []
        webs = list(known_webs().values()) + [[(0,)], [(1,), (3,)], [(15,)]]
        webs += [some_faces(chance, chance.choice((2, 4)), chance.choice((4, 5, 8, 16))) for _ in range(60)]
        for faces in webs:
            left = [point for point in range(16) if (point,) not in closed(faces)]
            with self.subTest(faces=faces):
                if size_of(faces) == 3:
                    words.append("BadSize")
                    with self.assertRaises(errors.BadSize):
                        coned(Web(faces))
                elif not left or 2 * len(closed(faces)) + 1 > 120:
                    words.append("Full")
                    with self.assertRaises(errors.Full):
                        coned(Web(faces))
                else:
                    words.append("let")
                    right = Web([(left[0],)] + [face + (left[0],) for face in closed(faces)])
                    told = coned(Web(faces))
                    self.assertEqual((type(told), told), (tuple, (right, left[0])))
                    self.assertEqual(len(right), 2 * len(closed(faces)) + 1)
                    self.assertEqual([rings(right, size).orders for size in range(4)], [[0], [], [], []])
        for word in ("BadSize", "Full", "let"):
            self.assertGreater(words.count(word), 1)

    def test_at_the_bounds(self):
        self.assertEqual(coned(Web()), (Web([(0,)]), 0))
        self.assertEqual(coned(Web([(point,) for point in range(15)]))[1], 15)
        with self.assertRaises(errors.Full):
            coned(Web([(point,) for point in range(16)]))
        stretches = list(itertools.combinations(range(11), 2))
        for many, full in ((48, False), (49, True)):
            web = Web([(point,) for point in range(11)] + stretches[:many])
            self.assertEqual(len(web), 11 + many)
            if full:
                with self.assertRaises(errors.Full):
                    coned(web)
            else:
                self.assertEqual(len(coned(web)[0]), 119)

    def test_bad_size_goes_ahead_of_full(self):
        with self.assertRaises(errors.BadSize):
            coned(Web([(0, 1, 2, 3)] + [(point,) for point in range(4, 16)]))
        with self.assertRaises(errors.BadSize):
            coned(Web(list(itertools.combinations(range(7), 4))))


class RefusedTest(unittest.TestCase):
    def refused(self, word, function, *handed, rests):
        kept = copy.deepcopy(handed)
        with self.subTest(function=function.__name__, handed=handed, rests=rests):
            with self.assertRaises(getattr(errors, word)):
                function(*handed, rests=rests)
            self.assertEqual(handed, kept)

    def test_the_order_of_refusals(self):
        for faces, others in (([(0, 1, 2)], [(0, 1), (2,)]), ([], [(0, 1)]), ([(0,)], [(0, 1, 2, 3)])):
            cross = Cross(Web(faces), Web(others))
            firsts = refusals(lambda size: [1] * len(of_size(faces, size)))
            seconds = refusals(lambda size: [1] * len(of_size(others, size)))
            for size, rests, row, word in firsts:
                for high, more_rests, more, later in seconds[::23]:
                    self.refused(word, cross.across, size, row, high, more, rests=rests)
            for high, rests, more, word in seconds:
                word = "BadRests" if rests not in (0, 2, 60) else word
                for size in range(4):
                    row = [5] * len(of_size(faces, size))
                    self.refused(word, cross.across, size, row, high, more, rests=rests)
            for size, rests, row, word in refusals(lambda size: [1] * cross.made.many(size)):
                self.refused(word, cross.apart, size, row, rests=rests)

    def test_names_are_as_the_interface_tells(self):
        for name, wished in (
            ("__init__", "one other"), ("across", "size row high more rests"), ("apart", "size row rests"),
        ):
            parameters = inspect.signature(vars(Cross)[name]).parameters
            self.assertEqual(list(parameters)[1:], wished.split())
            if "rests" in parameters:
                rests = parameters["rests"]
                self.assertEqual((rests.kind, rests.default), (inspect.Parameter.KEYWORD_ONLY, 0))
        self.assertEqual(list(inspect.signature(beside).parameters), ["one", "other"])
        self.assertEqual(list(inspect.signature(coned).parameters), ["web"])
        self.assertLessEqual({"made", "pairs", "first", "second"}, set(vars(Cross(Web(), Web()))))


if __name__ == "__main__":
    unittest.main()

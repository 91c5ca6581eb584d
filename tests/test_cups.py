"""cupweb/cups.py: points 2, 4, 11 and 12, and the interface's section of that name."""

import copy
import inspect
import itertools
import random
import unittest

from cupweb import errors
from cupweb.cups import cap, cup, exchanged, products, stepped
from cupweb.groups import cuts
from cupweb.web import Web
from drawn import (
    BAD_RESTS, BENT_PLANE, RESTS, TWO_RINGS, by_columns, by_rests, known_webs, kernel_by_rests, of_size, own_border,
    own_rise, refusals, some_faces, some_row, some_sum, two_row_refusals,
)

ALL_SIZES = list(itertools.product(range(4), range(4)))


def drawn_webs(seed, many, known=False):
    """(chance, faces handed in, their web), the web without faces first."""
    chance = random.Random(seed)
    told = list(known_webs().values()) if known else [[]]
    told += [some_faces(chance, points=chance.choice((4, 5, 6, 8, 16))) for _ in range(many)]
    return [(chance, faces, Web(faces)) for faces in told]


def own_cup(faces, size, row, high, other):
    """The product by point 11."""
    ahead, behind = dict(zip(of_size(faces, size), row)), dict(zip(of_size(faces, high), other))
    return [ahead[face[:size + 1]] * behind[face[size:]] for face in of_size(faces, size + high)]


def own_cap(faces, size, row, low, cut):
    """The capped row by point 11."""
    numbers, ahead = dict(zip(of_size(faces, size), row)), dict(zip(of_size(faces, low), cut))
    told = []
    for face in of_size(faces, size - low):
        over = [other for other in numbers if other[low:] == face]
        told.append(sum(numbers[other] * ahead[other[:low + 1]] for other in over))
    return told


def own_cut(chance, faces, size, rests, figures=2):
    """A cut by rests, by the test's own sums: any sum of the rows that the rise shuts."""
    many = len(of_size(faces, size))
    table = by_columns(own_rise, faces, size, len(of_size(faces, size + 1)))
    return some_sum(chance, kernel_by_rests(table, many, rests), many, figures)


def minus(row, other, sign=1):
    return [one - sign * less for one, less in zip(row, other, strict=True)]


def plus(row, other, sign=1):
    return minus(row, other, -sign)


class CupTest(unittest.TestCase):
    def test_by_hand(self):
        web = Web([(0, 1, 2), (2, 3)])
        self.assertEqual(cup(web, 0, [1, 10, 100, 1000], 0, [2, 3, 4, 5]), [2, 30, 400, 5000])
        self.assertEqual(cup(web, 0, [1, 10, 100, 1000], 1, [2, 3, 4, 5]), [2, 3, 40, 500])
        self.assertEqual(cup(web, 1, [2, 3, 4, 5], 0, [1, 10, 100, 1000]), [20, 300, 400, 5000])
        self.assertEqual(cup(web, 1, [2, 3, 4, 5], 1, [1, 10, 100, 1000]), [200])
        self.assertEqual(cup(web, 1, [2, 3, 4, 5], 1, [1, 10, 100, 1000], rests=7), [4])
        self.assertEqual(cup(web, 1, [2, 3, 4, 5], 2, [7]), [])
        self.assertEqual(cup(web, 2, [7], 2, [7]), [])
        self.assertEqual(cup(web, 3, [], 3, []), [])
        four = Web([(9, 4, 1, 6)])
        self.assertEqual(cup(four, 1, [1, 2, 3, 4, 5, 6], 2, [10, 20, 30, 40]), [40])
        self.assertEqual(cup(four, 2, [10, 20, 30, 40], 1, [1, 2, 3, 4, 5, 6]), [60])

    def test_drawn_rows(self):
        for chance, faces, web in drawn_webs(601, 30):
            for size, high in ALL_SIZES:
                for rests in (0, chance.choice(RESTS)):
                    row, other = (some_row(chance, len(of_size(faces, at))) for at in (size, high))
                    kept = list(row), list(other)
                    right = by_rests(own_cup(faces, size, row, high, other), rests)
                    with self.subTest(faces=faces, size=size, row=row, high=high, other=other, rests=rests):
                        self.assertEqual(cup(web, size, row, high, other, rests=rests), right)
                        self.assertEqual((row, other), kept)
                        if not rests:
                            self.assertEqual(cup(web, size, row, high, other), right)

    def test_every_rests(self):
        faces = [(0, 1, 2, 3), (2, 3, 4), (4, 5), (7,)]
        chance = random.Random(602)
        for rests in RESTS:
            for size, high in ALL_SIZES:
                row, other = (some_row(chance, len(of_size(faces, at))) for at in (size, high))
                right = by_rests(own_cup(faces, size, row, high, other), rests)
                self.assertEqual(cup(Web(faces), size, row, high, other, rests=rests), right)
                low, top = min(size, high), max(size, high)
                row, other = (row, other) if size == top else (other, row)
                right = by_rests(own_cap(faces, top, row, low, other), rests)
                self.assertEqual(cap(Web(faces), top, row, low, other, rests=rests), right)

    def test_the_rise_of_a_product(self):
        for chance, faces, web in drawn_webs(603, 30):
            for size, high in [(size, high) for size, high in ALL_SIZES if size + high < 3]:
                row, other = (some_row(chance, len(of_size(faces, at))) for at in (size, high))
                left = own_rise(faces, size + high, cup(web, size, row, high, other))
                one = cup(web, size + 1, own_rise(faces, size, row), high, other)
                two = cup(web, size, row, high + 1, own_rise(faces, high, other))
                self.assertEqual(left, plus(one, two, (1, -1)[size % 2]))

    def test_products_of_three(self):
        for chance, faces, web in drawn_webs(604, 30):
            for sizes in itertools.product(range(4), repeat=3):
                if sum(sizes) <= 3:
                    a, b, c = sizes
                    one, two, three = (some_row(chance, len(of_size(faces, size)), 9) for size in sizes)
                    rests = chance.choice(RESTS)
                    left = cup(web, a + b, cup(web, a, one, b, two, rests=rests), c, three, rests=rests)
                    right = cup(web, a, one, b + c, cup(web, b, two, c, three, rests=rests), rests=rests)
                    self.assertEqual(left, right)

    def test_told_rows_are_new_ones(self):
        web = Web([(0, 1, 2, 3)])
        for size, high in ALL_SIZES:
            for function in (cup, cap, exchanged):
                if function == cap and high > size:
                    continue
                row, other = [0] * web.many(size), [0] * web.many(high)
                told = function(web, size, row, high, other)
                right = list(told)
                told.append(7)
                told[0] = 8
                self.assertEqual(function(web, size, row, high, other), right)
                self.assertEqual((row, other), ([0] * web.many(size), [0] * web.many(high)))


class CapTest(unittest.TestCase):
    def test_by_hand(self):
        web = Web([(0, 1, 2), (2, 3)])
        self.assertEqual(cap(web, 1, [2, 3, 4, 5], 0, [1, 10, 100, 1000]), [2, 3, 40, 500])
        self.assertEqual(cap(web, 1, [2, 3, 4, 5], 1, [1, 10, 100, 1000]), [0, 2, 430, 5000])
        self.assertEqual(cap(web, 2, [7], 1, [1, 10, 100, 1000]), [0, 0, 7, 0])
        self.assertEqual(cap(web, 2, [7], 2, [3]), [0, 0, 21, 0])
        self.assertEqual(cap(web, 2, [7], 2, [3], rests=20), [0, 0, 1, 0])
        self.assertEqual(cap(web, 2, [7], 0, [2, 0, 0, 0]), [14])
        self.assertEqual(cap(web, 3, [], 0, [2, 0, 0, 0]), [])

    def test_drawn_rows(self):
        for chance, faces, web in drawn_webs(611, 30):
            for size, low in [(size, low) for size, low in ALL_SIZES if low <= size]:
                for rests in (0, chance.choice(RESTS)):
                    row, other = (some_row(chance, len(of_size(faces, at))) for at in (size, low))
                    kept = list(row), list(other)
                    right = by_rests(own_cap(faces, size, row, low, other), rests)
                    with self.subTest(faces=faces, size=size, row=row, low=low, other=other, rests=rests):
                        self.assertEqual(cap(web, size, row, low, other, rests=rests), right)
                        self.assertEqual((row, other), kept)
                        if not rests:
                            self.assertEqual(cap(web, size, row, low, other), right)

    def test_a_capped_row_summed_is_the_row_summed_with_the_product(self):
        for chance, faces, web in drawn_webs(612, 30):
            for size, low in [(size, low) for size, low in ALL_SIZES if low <= size]:
                row, one, two = (some_row(chance, len(of_size(faces, at))) for at in (size, low, size - low))
                left = sum(a * b for a, b in zip(cap(web, size, row, low, one), two, strict=True))
                right = sum(a * b for a, b in zip(row, cup(web, low, one, size - low, two), strict=True))
                self.assertEqual(left, right)

    def test_the_border_of_a_capped_row(self):
        for chance, faces, web in drawn_webs(613, 30):
            for size, low in [(size, low) for size, low in ALL_SIZES if low < size]:
                row, other = (some_row(chance, len(of_size(faces, at))) for at in (size, low))
                left = own_border(faces, size - low, cap(web, size, row, low, other))
                one = cap(web, size - 1, own_border(faces, size, row), low, other)
                two = cap(web, size, row, low + 1, own_rise(faces, low, other))
                self.assertEqual(left, [(1, -1)[low % 2] * number for number in minus(one, two)])

    def test_capped_twice(self):
        for chance, faces, web in drawn_webs(614, 20):
            for size, low, more in itertools.product(range(4), repeat=3):
                if low + more <= size:
                    row, one, two = (some_row(chance, len(of_size(faces, at)), 8) for at in (size, low, more))
                    left = cap(web, size - low, cap(web, size, row, low, one), more, two)
                    self.assertEqual(left, cap(web, size, row, low + more, cup(web, low, one, more, two)))

    def test_a_greater_size_is_refused(self):
        for chance, faces, web in drawn_webs(615, 10):
            for size, low in [(size, low) for size, low in ALL_SIZES if low > size]:
                row, other = (some_row(chance, len(of_size(faces, at))) for at in (size, low))
                for rests in (0, chance.choice(RESTS)):
                    with self.assertRaises(errors.BadSize):
                        cap(web, size, row, low, other, rests=rests)


class ExchangedTest(unittest.TestCase):
    def check(self, faces, web, size, row, high, other, rests):
        kept = list(row), list(other)
        with self.subTest(faces=faces, size=size, row=row, high=high, other=other, rests=rests):
            told = exchanged(web, size, row, high, other, rests=rests)
            self.assertIs(type(told), list)
            self.assertEqual(len(told), len(of_size(faces, size + high - 1)))
            self.assertEqual(told, by_rests(told, rests))
            sign = -1 if size % 2 and high % 2 else 1
            more = minus(own_cup(faces, size, row, high, other), own_cup(faces, high, other, size, row), sign)
            reached = own_rise(faces, size + high - 1, told) if size + high else [0] * len(more)
            self.assertEqual(by_rests(reached, rests), by_rests(more, rests))
            self.assertEqual((row, other), kept)
            self.assertEqual(exchanged(Web(faces[::-1]), size, row, high, other, rests=rests), told)

    def test_any_cuts(self):
        for chance, faces, web in drawn_webs(621, 15, known=True):
            for size, high in ALL_SIZES:
                for rests in (0, chance.choice((2, 4, 6)), chance.choice(RESTS)):
                    row, other = (own_cut(chance, faces, at, rests) for at in (size, high))
                    self.check(faces, web, size, row, high, other, rests)

    def test_makers_and_rises(self):
        for chance, faces, web in drawn_webs(622, 5, known=True):
            for size, high in ALL_SIZES:
                rests = chance.choice((0, 2, 12))
                rows = cuts(web, size, rests=rests).makers
                others = cuts(web, high, rests=rests).makers
                if size:
                    rows.append(own_rise(faces, size - 1, some_row(chance, len(of_size(faces, size - 1)))))
                if high:
                    others.append(own_rise(faces, high - 1, some_row(chance, len(of_size(faces, high - 1)))))
                for row, other in list(itertools.product(rows, others))[:4]:
                    self.check(faces, web, size, row, high, other, rests)

    def test_beyond_the_greatest_size(self):
        web = Web([(0, 1, 2, 3), (1, 2, 3, 4)])
        for size, high in [(size, high) for size, high in ALL_SIZES if size + high > 3]:
            row, other = [0] * web.many(size), [0] * web.many(high)
            self.assertEqual(len(exchanged(web, size, row, high, other)), 2 if size + high == 4 else 0)
            self.assertEqual(len(exchanged(web, size, row, high, other, rests=5)), 2 if size + high == 4 else 0)
        self.assertEqual(exchanged(web, 0, [3] * 5, 0, [4] * 5), [])

    def test_rows_that_are_no_cuts(self):
        words = []
        for chance, faces, web in drawn_webs(623, 25):
            for size, high in ALL_SIZES:
                rests = chance.choice((0, 2, chance.choice(RESTS)))
                rows = [own_cut(chance, faces, size, rests), some_row(chance, len(of_size(faces, size)))]
                others = [own_cut(chance, faces, high, rests), some_row(chance, len(of_size(faces, high)))]
                for row, other in itertools.product(rows, others):
                    opened = by_rests(own_rise(faces, size, row) + own_rise(faces, high, other), rests)
                    if any(opened):
                        words.append("NotShut")
                        with self.assertRaises(errors.NotShut):
                            exchanged(web, size, row, high, other, rests=rests)
        self.assertGreater(len(words), 300)


class ProductsTest(unittest.TestCase):
    def check(self, faces, web, size, high, rests):
        with self.subTest(faces=faces, size=size, high=high, rests=rests):
            told = products(web, size, high, rests=rests)
            makers, others = cuts(web, size, rests=rests).makers, cuts(web, high, rests=rests).makers
            group = cuts(web, size + high, rests=rests) if size + high <= 3 else None
            self.assertEqual(len(told), len(makers))
            for maker, line in zip(makers, told):
                self.assertEqual(len(line), len(others))
                for other, numbers in zip(others, line):
                    row = own_cup(faces, size, maker, high, other)
                    self.assertEqual(numbers, group.coordinates(row) if group else [])
            return told

    def test_drawn_webs(self):
        for chance, faces, web in drawn_webs(631, 15, known=True):
            for size, high in ALL_SIZES:
                for rests in (0, chance.choice((2, 3, 4, 6)), chance.choice(RESTS)):
                    self.check(faces, web, size, high, rests)

    def test_two_rings(self):
        web = Web(TWO_RINGS)
        for rests in (0, 7):
            told = products(web, 1, 1, rests=rests)
            flat = [[by_rests(numbers, rests) for numbers in line] for line in told]
            (a, b), (c, d) = flat
            self.assertEqual((a, d), ([0], [0]))
            self.assertEqual(by_rests([b[0] + c[0]], rests), [0])
            self.assertIn(b[0], range(1, 7) if rests else (1, -1))

    def test_the_bent_plane(self):
        self.assertEqual(products(Web(BENT_PLANE), 1, 1, rests=2), [[[1]]])
        self.assertEqual(products(Web(BENT_PLANE), 1, 1), [])
        self.assertEqual(products(Web(BENT_PLANE), 2, 2, rests=2), [[[]]])
        self.assertEqual(products(Web(BENT_PLANE), 0, 2), [[[1]]])

    def test_rests_left_out_and_lists_that_are_new(self):
        for chance, faces, web in drawn_webs(632, 5, known=True):
            for size, high in ALL_SIZES:
                told = products(web, size, high)
                right = copy.deepcopy(told)
                self.assertEqual(products(web, size, high, rests=0), right)
                for line in told:
                    for numbers in line:
                        numbers.append(3)
                    line.append([4])
                told.append([])
                self.assertEqual(products(web, size, high), right)


class SteppedTest(unittest.TestCase):
    def check(self, faces, web, size, row, rests):
        kept = list(row)
        with self.subTest(faces=faces, size=size, row=row, rests=rests):
            told = stepped(web, size, row, rests=rests)
            whole = own_rise(faces, size, by_rests(row, rests))
            self.assertTrue(all(number % rests == 0 for number in whole))
            self.assertEqual(told, [number // rests for number in whole])
            self.assertFalse(any(own_rise(faces, size + 1, told)))
            self.assertEqual(row, kept)
            return told

    def test_any_cuts(self):
        for chance, faces, web in drawn_webs(641, 20, known=True):
            for size in range(4):
                for rests in (2, 60, chance.choice(RESTS[1:])):
                    told = self.check(faces, web, size, own_cut(chance, faces, size, rests, 20), rests)
                    if size == 3:
                        self.assertEqual(told, [])

    def test_every_rests(self):
        chance = random.Random(642)
        for rests in RESTS[1:]:
            for size in range(4):
                self.check(BENT_PLANE, Web(BENT_PLANE), size, own_cut(chance, BENT_PLANE, size, rests), rests)

    def test_by_hand(self):
        web = Web([(0, 1)])
        self.assertEqual(stepped(web, 0, [3, 8], rests=5), [0])
        self.assertEqual(stepped(web, 0, [-1, 4], rests=5), [0])
        self.assertEqual(stepped(web, 1, [7], rests=5), [])
        triangle = Web([(0, 1, 2)])
        self.assertEqual(stepped(triangle, 1, [1, 0, 1], rests=2), [1])
        self.assertEqual(stepped(triangle, 1, [-1, 2, 3], rests=2), [1])

    def test_the_bent_plane(self):
        web = Web(BENT_PLANE)
        maker = cuts(web, 1, rests=2).makers[0]
        self.assertEqual(cuts(web, 2).coordinates(stepped(web, 1, maker, rests=2)), [1])

    def test_rows_that_are_no_cuts(self):
        words = []
        for chance, faces, web in drawn_webs(643, 25):
            for size in range(4):
                rests = chance.choice(RESTS[1:])
                row = some_row(chance, len(of_size(faces, size)))
                if any(by_rests(own_rise(faces, size, row), rests)):
                    words.append("NotShut")
                    with self.assertRaises(errors.NotShut):
                        stepped(web, size, row, rests=rests)
        self.assertGreater(len(words), 20)


class RefusedTest(unittest.TestCase):
    # The rows by which refusals are asked are no cuts, where there are two faces and more: point 4 goes ahead of it.
    WEBS = ([], [(0, 1, 2), (2, 3)], [(0, 1, 2, 3), (4,), (3, 4)])

    def refused(self, word, function, *handed, **more):
        kept = copy.deepcopy(handed[1:])
        with self.subTest(function=function.__name__, handed=handed, more=more):
            with self.assertRaises(getattr(errors, word)):
                function(*handed, **more)
            self.assertEqual(handed[1:], kept)

    def test_two_rows(self):
        for faces in self.WEBS:
            web = Web(faces)
            told = two_row_refusals(lambda size: list(range(1, len(of_size(faces, size)) + 1)))
            for size, row, high, other, rests, word in told:
                for function in (cup, cap, exchanged):
                    self.refused(word, function, web, size, row, high, other, rests=rests)

    def test_two_sizes_without_rows(self):
        bad = (-1, 4, -2, 5, 10 ** 29, -(10 ** 29))
        for faces in self.WEBS:
            web = Web(faces)
            for size, high, rests in itertools.product(bad + (0, 1, 3), bad + (0, 1, 3), BAD_RESTS + (0, 2, 60)):
                if size in bad:
                    self.refused("BadSize", products, web, size, high, rests=rests)
                elif rests in BAD_RESTS:
                    self.refused("BadRests", products, web, size, high, rests=rests)
                elif high in bad:
                    self.refused("BadSize", products, web, size, high, rests=rests)

    def test_stepped(self):
        for faces in self.WEBS:
            web = Web(faces)
            told = refusals(lambda size: list(range(1, len(of_size(faces, size)) + 1)), good_rests=(2, 3, 60))
            for size, rests, row, word in told:
                self.refused(word, stepped, web, size, row, rests=rests)
                # Whole numbers are no rests here, and are refused where rests are.
                self.refused("BadSize" if word == "BadSize" else "BadRests", stepped, web, size, row, rests=0)

    def test_names_are_as_the_interface_tells(self):
        for function, wished in (
            (cup, "web size row high other rests"), (cap, "web size row low cut rests"),
            (exchanged, "web size row high other rests"), (products, "web size high rests"),
            (stepped, "web size row rests"),
        ):
            parameters = inspect.signature(function).parameters
            self.assertEqual(list(parameters), wished.split())
            rests = parameters["rests"]
            self.assertEqual(rests.kind, inspect.Parameter.KEYWORD_ONLY)
            self.assertEqual(rests.default, inspect.Parameter.empty if function == stepped else 0)


if __name__ == "__main__":
    unittest.main()

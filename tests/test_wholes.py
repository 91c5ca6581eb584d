"""cupweb/wholes.py: points 2 and 4, and the interface's section of that name."""

import inspect
import math
import random
import unittest

from cupweb import wholes
from cupweb.wholes import WHOLE, paired, rest, rested, share, timed

EDGES = (0, 1, -1, 2, -2, 59, 60, -60, 61, 10 ** 24, -(10 ** 24), 10 ** 25 - 1, -(10 ** 25 - 1))


def some_number(chance, figures=25):
    """A number of any sign, of any count of figures as likely as another."""
    return chance.randint(-(10 ** chance.randint(0, figures)) + 1, 10 ** chance.randint(0, figures) - 1)


class RestTest(unittest.TestCase):
    def test_whole_is_nought(self):
        self.assertEqual(WHOLE, 0)
        self.assertIs(type(WHOLE), int)

    def test_rests_may_be_left_out_or_told_by_name_or_place(self):
        for function in (rest, rested):
            self.assertEqual(inspect.signature(function).parameters["rests"].default, 0)
        self.assertEqual(rest(-7, rests=5), 3)
        self.assertEqual(rest(-7, 5), 3)
        self.assertEqual(rested([-7, 12], rests=5), [3, 2])
        self.assertEqual(rested([-7, 12], 5), [3, 2])

    def test_whole_numbers_stay(self):
        for number in EDGES:
            with self.subTest(number=number):
                self.assertEqual(rest(number), number)
                self.assertEqual(rest(number, rests=0), number)
        self.assertEqual(rested(list(EDGES)), list(EDGES))
        self.assertEqual(rested(list(EDGES), rests=0), list(EDGES))

    def test_rests_are_from_nought_to_one_less(self):
        chance = random.Random(1)
        for rests in range(2, 61):
            for number in EDGES + tuple(some_number(chance) for _ in range(20)):
                told = rest(number, rests=rests)
                with self.subTest(number=number, rests=rests):
                    self.assertIn(told, range(rests))
                    self.assertEqual((number - told) % rests, 0)
                    self.assertEqual(rest(told, rests=rests), told)

    def test_rested_is_the_rest_of_each(self):
        chance = random.Random(2)
        for rests in [0] + list(range(2, 61)):
            row = [some_number(chance) for _ in range(chance.randint(0, 9))]
            with self.subTest(row=row, rests=rests):
                self.assertEqual(rested(row, rests=rests), [rest(number, rests=rests) for number in row])
        self.assertEqual(rested([]), [])
        self.assertEqual(rested([], rests=7), [])

    def test_the_row_stays_and_the_told_one_is_new(self):
        for rests in (0, 2, 60):
            for row in ([], [5], [0, 1], [-3, 61, 10 ** 24]):
                kept = list(row)
                told = rested(row, rests=rests)
                right = list(told)
                self.assertIsInstance(told, list)
                self.assertIsNot(told, row)
                told.append(99)
                self.assertEqual(row, kept)
                row.append(4)
                self.assertEqual(told, right + [99])
                self.assertEqual(rested(kept, rests=rests), right)


class ShareTest(unittest.TestCase):
    def check(self, one, other):
        told = share(one, other)
        with self.subTest(one=one, other=other):
            self.assertIsInstance(told, tuple)
            both, by, more = told
            self.assertGreaterEqual(both, 0)
            self.assertEqual(by * one + more * other, both)
            self.assertEqual(both, math.gcd(one, other))
            if both == 0:
                self.assertEqual((one, other), (0, 0))
            else:
                self.assertEqual((one % both, other % both), (0, 0))
            self.assertEqual(share(one, other), told)

    def test_small_ones_of_any_sign(self):
        for one in range(-13, 14):
            for other in range(-13, 14):
                self.check(one, other)

    def test_two_noughts(self):
        self.assertEqual(share(0, 0)[0], 0)

    def test_edges(self):
        for one in EDGES:
            for other in EDGES:
                self.check(one, other)

    def test_long_ones(self):
        chance = random.Random(3)
        for _ in range(600):
            self.check(some_number(chance), some_number(chance))

    def test_one_a_multiple_of_the_other(self):
        chance = random.Random(4)
        for _ in range(300):
            one = some_number(chance, 12)
            times = some_number(chance, 12)
            self.check(one, one * times)
            self.check(one * times, one)

    def test_a_divisor_set_ahead(self):
        chance = random.Random(5)
        for _ in range(300):
            both = chance.randint(1, 10 ** 12)
            self.check(both * some_number(chance, 12), both * some_number(chance, 12))

    def test_the_slowest_pairs(self):
        one, other = 1, 1
        while other < 10 ** 25:
            self.check(one, other)
            self.check(-other, one)
            one, other = other, one + other


class PairedTest(unittest.TestCase):
    def test_by_hand(self):
        self.assertEqual(paired([], []), 0)
        self.assertEqual(paired([3], [-4]), -12)
        self.assertEqual(paired([1, 2, 3], [4, -5, 6]), 12)
        self.assertEqual(timed([], [1, 2]), [])
        self.assertEqual(timed([], []), [])
        self.assertEqual(timed([[], []], []), [0, 0])
        self.assertEqual(timed([[1, 2], [3, 4], [0, -1]], [5, -6]), [-7, -9, 6])

    def test_rows_of_any_length_to_nine(self):
        chance = random.Random(6)
        for many in range(10):
            for _ in range(20):
                one = [some_number(chance) for _ in range(many)]
                other = [some_number(chance) for _ in range(many)]
                total = 0
                for at in range(many):
                    total += one[at] * other[at]
                kept = (list(one), list(other))
                with self.subTest(one=one, other=other):
                    self.assertEqual(paired(one, other), total)
                    self.assertEqual(paired(other, one), total)
                    self.assertEqual((one, other), kept)

    def test_tables_line_by_line(self):
        chance = random.Random(7)
        for wide in range(10):
            for many in range(10):
                table = [[some_number(chance) for _ in range(wide)] for _ in range(many)]
                row = [some_number(chance) for _ in range(wide)]
                kept = ([list(line) for line in table], list(row))
                told = timed(table, row)
                with self.subTest(table=table, row=row):
                    self.assertIsInstance(told, list)
                    self.assertEqual(told, [sum(a * b for a, b in zip(line, row)) for line in table])
                    self.assertEqual((table, row), kept)

    def test_the_told_list_is_a_new_one(self):
        table = [[1, 0], [0, 1]]
        row = [8, 9]
        told = timed(table, row)
        self.assertIsNot(told, row)
        told[0] = 5
        told.append(6)
        self.assertEqual(row, [8, 9])
        self.assertEqual(timed(table, row), [8, 9])


class NamesTest(unittest.TestCase):
    def test_parameters_are_as_the_interface_names_them(self):
        wished = {
            "rest": ["number", "rests"], "rested": ["row", "rests"], "share": ["one", "other"],
            "paired": ["one", "other"], "timed": ["table", "row"],
        }
        for name, parameters in wished.items():
            told = list(inspect.signature(getattr(wholes, name)).parameters)
            self.assertEqual(told, parameters)


if __name__ == "__main__":
    unittest.main()

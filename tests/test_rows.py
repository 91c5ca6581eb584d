"""cupweb/rows.py: points 2, 4, 5 and 6, and the interface's section of that name."""

import copy
import inspect
import random
import unittest

from cupweb import errors
from cupweb.rows import border, border_table, is_cut, is_ring, rise, rise_table
from cupweb.web import Web
from drawn import (
    RESTS, by_columns, by_rests, line_sums, of_size, own_border, own_rise, refusals, some_faces, some_row,
)

FUNCTIONS = (border, rise, is_ring, is_cut)
SIZES = (-10 ** 20, -2, -1, 0, 1, 2, 3, 4, 5, 10 ** 20)


def drawn_webs(seed, many, points=16):
    """(chance, faces handed in, their web), the web without faces first."""
    chance = random.Random(seed)
    told = [[]] + [some_faces(chance, points=points) for _ in range(many)]
    return [(chance, faces, Web(faces)) for faces in told]


def nought(row):
    return [0] * len(row)


class RowsTest(unittest.TestCase):
    def check(self, faces, web, size, row, rests):
        """All that point 5 says of a row."""
        kept = list(row)
        lower = by_rests(own_border(faces, size, row), rests)
        upper = by_rests(own_rise(faces, size, row), rests)
        with self.subTest(faces=faces, size=size, row=kept, rests=rests):
            for _ in range(2):
                self.assertEqual(border(web, size, row, rests=rests), lower)
                self.assertEqual(rise(web, size, row, rests=rests), upper)
                self.assertIs(is_ring(web, size, row, rests=rests), not any(lower))
                self.assertIs(is_cut(web, size, row, rests=rests), not any(upper))
                self.assertEqual(row, kept)

    def test_by_hand(self):
        web = Web([(0, 1, 2), (2, 3)])
        self.assertEqual(border(web, 1, [1, 10, 100, 1000]), [-11, -99, -890, 1000])
        self.assertEqual(border(web, 1, [1, 10, 100, 1000], rests=7), [3, 6, 6, 6])
        self.assertEqual(border(web, 2, [5]), [5, -5, 5, 0])
        self.assertEqual(border(web, 0, [1, 2, 3, 4]), [])
        self.assertEqual(rise(web, 0, [1, 10, 100, 1000]), [9, 99, 90, 900])
        self.assertEqual(rise(web, 1, [1, 10, 100, 1000]), [91])
        self.assertEqual(rise(web, 1, [1, 10, 100, 1000], rests=60), [31])
        self.assertEqual(rise(web, 2, [5]), [])
        self.assertEqual((rise(web, 3, []), border(web, 3, [])), ([], [0]))
        four = Web([(9, 4, 1, 6)])
        self.assertEqual(border(four, 3, [2]), [-2, 2, -2, 2])
        self.assertEqual(rise(four, 2, [1, 10, 100, 1000]), [1000 - 100 + 10 - 1])
        self.assertEqual(border(four, 3, [2], rests=5), [3, 2, 3, 2])

    def test_rings_and_cuts_by_hand(self):
        web = Web([(0, 1), (1, 2), (0, 2)])
        self.assertIs(is_ring(web, 1, [1, -1, 1]), True)
        self.assertIs(is_ring(web, 1, [1, 1, 1]), False)
        self.assertIs(is_ring(web, 1, [1, 1, 1], rests=2), True)
        self.assertIs(is_ring(web, 1, [1, 2, 1], rests=3), True)
        self.assertIs(is_ring(web, 0, [7, 8, 9]), True)
        self.assertIs(is_cut(web, 0, [7, 7, 7]), True)
        self.assertIs(is_cut(web, 0, [7, 7, 8]), False)
        self.assertIs(is_cut(web, 0, [7, -53, 67], rests=60), True)
        self.assertIs(is_cut(web, 1, [7, 8, 9]), True)

    def test_drawn_rows(self):
        for chance, faces, web in drawn_webs(301, 60):
            for size in range(4):
                many = len(of_size(faces, size))
                for rests in (0, 2, 60, chance.choice(RESTS)):
                    for row in (some_row(chance, many), some_row(chance, many, 1), [0] * many):
                        self.check(faces, web, size, row, rests)

    def test_every_rests(self):
        faces = [(0, 1, 2, 3), (3, 4, 5), (5, 0), (7,)]
        chance = random.Random(302)
        for rests in RESTS:
            for size in range(4):
                self.check(faces, Web(faces), size, some_row(chance, len(of_size(faces, size))), rests)

    def test_rests_left_out_are_whole_numbers(self):
        for chance, faces, web in drawn_webs(303, 30):
            for size in range(4):
                row = some_row(chance, len(of_size(faces, size)))
                for function in FUNCTIONS:
                    self.assertEqual(function(web, size, row), function(web, size, row, rests=0))
                self.assertEqual(border(web, size, row), own_border(faces, size, row))
                self.assertEqual(rise(web, size, row), own_rise(faces, size, row))

    def test_told_rows_are_new_ones(self):
        web = Web([(0, 1, 2), (2, 3)])
        for size, row in ((0, [1, 2, 3, 4]), (1, [1, 2, 3, 4]), (2, [1]), (3, [])):
            for function in (border, rise):
                for rests in (0, 9):
                    told = function(web, size, row, rests=rests)
                    right = list(told)
                    told.append(99)
                    told[0] = 98
                    self.assertEqual(function(web, size, row, rests=rests), right)


class TablesTest(unittest.TestCase):
    def test_by_hand(self):
        web = Web([(0, 1, 2), (2, 3)])
        self.assertEqual(border_table(web, 2), [[1], [-1], [1], [0]])
        self.assertEqual(rise_table(web, 1), [[1, -1, 1, 0]])
        self.assertEqual(rise_table(web, 0), [[-1, 1, 0, 0], [-1, 0, 1, 0], [0, -1, 1, 0], [0, 0, -1, 1]])
        self.assertEqual(border_table(web, 1), [[-1, -1, 0, 0], [1, 0, -1, 0], [0, 1, 1, -1], [0, 0, 0, 1]])

    def test_all_sizes(self):
        for chance, faces, web in drawn_webs(311, 60):
            for size in SIZES:
                below, above = len(of_size(faces, size - 1)), len(of_size(faces, size + 1))
                with self.subTest(faces=faces, size=size):
                    self.assertEqual(border_table(web, size), by_columns(own_border, faces, size, below))
                    self.assertEqual(rise_table(web, size), by_columns(own_rise, faces, size, above))

    def test_beyond_the_sizes(self):
        web = Web([(0, 1, 2, 3), (4,)])
        for size in (-2, -3, 5, 6, 10 ** 29, -(10 ** 29)):
            self.assertEqual((border_table(web, size), rise_table(web, size)), ([], []))
        self.assertEqual((border_table(web, -1), rise_table(web, -1)), ([], [[], [], [], [], []]))
        self.assertEqual((border_table(web, 4), rise_table(web, 4)), ([[]], []))
        self.assertEqual((border_table(web, 0), rise_table(web, 3)), ([], []))

    def test_lines_by_the_row_are_border_and_rise(self):
        for chance, faces, web in drawn_webs(312, 40):
            for size in range(4):
                row = some_row(chance, len(of_size(faces, size)))
                self.assertEqual(line_sums(border_table(web, size), row), border(web, size, row))
                self.assertEqual(line_sums(rise_table(web, size), row), rise(web, size, row))

    def test_told_tables_are_new_ones(self):
        for chance, faces, web in drawn_webs(313, 20):
            for function in (border_table, rise_table):
                for size in range(-1, 5):
                    right = copy.deepcopy(function(web, size))
                    told = function(web, size)
                    self.assertEqual(len({id(line) for line in told}), len(told))
                    for line in told:
                        line.append(7)
                        line[0] = 8
                    told.append([9])
                    self.assertEqual(function(web, size), right)


class LawsTest(unittest.TestCase):
    def test_borders_of_borders_and_rises_of_rises_are_nought(self):
        for chance, faces, web in drawn_webs(321, 80):
            for rests in (0, chance.choice(RESTS)):
                for size in range(1, 4):
                    lower = border(web, size, some_row(chance, len(of_size(faces, size))), rests=rests)
                    self.assertEqual(border(web, size - 1, lower, rests=rests), nought(of_size(faces, size - 2)))
                    self.assertIs(is_ring(web, size - 1, lower, rests=rests), True)
                for size in range(3):
                    upper = rise(web, size, some_row(chance, len(of_size(faces, size))), rests=rests)
                    self.assertEqual(rise(web, size + 1, upper, rests=rests), nought(of_size(faces, size + 2)))
                    self.assertIs(is_cut(web, size + 1, upper, rests=rests), True)

    def test_a_rise_summed_with_a_row_is_the_row_summed_with_a_border(self):
        for chance, faces, web in drawn_webs(322, 80):
            for size in range(3):
                row = some_row(chance, len(of_size(faces, size)))
                other = some_row(chance, len(of_size(faces, size + 1)))
                one = sum(a * b for a, b in zip(rise(web, size, row), other, strict=True))
                self.assertEqual(one, sum(a * b for a, b in zip(row, border(web, size + 1, other), strict=True)))

    def test_sums_of_rows(self):
        for chance, faces, web in drawn_webs(323, 60):
            for rests in (0, 2, 60, chance.choice(RESTS)):
                for size in range(4):
                    rows = [some_row(chance, len(of_size(faces, size))) for _ in range(3)]
                    times = some_row(chance, 3, 9)
                    for function in (border, rise):
                        self.check_sum(function, web, size, rows, times, rests)

    def check_sum(self, function, web, size, rows, times, rests):
        def summed(parts):
            return [sum(by * part[at] for by, part in zip(times, parts)) for at in range(len(parts[0]))]

        parts = [function(web, size, row, rests=rests) for row in rows]
        self.assertEqual(function(web, size, summed(rows), rests=rests), by_rests(summed(parts), rests))


class RefusedTest(unittest.TestCase):
    def test_the_order_of_refusals(self):
        for faces in ([], [(0, 1, 2), (2, 3)], [(0, 1, 2, 3), (4,)]):
            web = Web(faces)
            for size, rests, row, word in refusals(lambda size: [1] * len(of_size(faces, size))):
                kept = list(row)
                for function in FUNCTIONS:
                    with self.subTest(faces=faces, size=size, rests=rests, row=row, function=function.__name__):
                        with self.assertRaises(getattr(errors, word)):
                            function(web, size, row, rests=rests)
                        self.assertEqual(row, kept)

    def test_rests_left_out_refuse_nothing_more(self):
        web = Web([(0, 1)])
        for function in FUNCTIONS:
            for size, row, word in ((-1, [], "BadSize"), (4, [], "BadSize"), (0, [1], "BadRow"), (3, [1], "BadRow")):
                with self.assertRaises(getattr(errors, word)):
                    function(web, size, row)
            function(web, 0, [1, 2])
            function(web, 3, [])

    def test_names_are_as_the_interface_tells(self):
        for function in FUNCTIONS:
            parameters = inspect.signature(function).parameters
            self.assertEqual(list(parameters), ["web", "size", "row", "rests"])
            self.assertEqual(parameters["rests"].kind, inspect.Parameter.KEYWORD_ONLY)
            self.assertEqual(parameters["rests"].default, 0)
        for function in (border_table, rise_table):
            self.assertEqual(list(inspect.signature(function).parameters), ["web", "size"])


if __name__ == "__main__":
    unittest.main()

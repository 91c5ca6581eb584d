"""cupweb/groups.py: points 2, 4, 5, 9 and 10, and the interface's section of that name."""

import copy
import inspect
import itertools
import math
import random
import unittest

from cupweb import errors
from cupweb.groups import Group, cuts, rings
from cupweb.papers import filled, raised
from cupweb.rows import border, rise
from cupweb.web import Web
from drawn import (
    BAD_RESTS, RESTS, by_columns, by_rests, closed, fill_table, holds, kernel_by_rests, known_webs, of_size, own_border,
    own_rise, raise_table, some_faces, some_row, some_sum,
)

# The orders of rings of sizes 0 to 3; a whole ring goes on and on, so its order is 0.
KNOWN = {
    "none": ([], [], [], []),
    "point": ([0], [], [], []),
    "stretch": ([0], [], [], []),
    "triangle": ([0], [], [], []),
    "four": ([0], [], [], []),
    "wall of three": ([0], [0], [], []),
    "wall of four": ([0], [], [0], []),
    "wall of five": ([0], [], [], [0]),
    "loop of five": ([0], [0], [], []),
    "wound twice": ([0], [2], [], []),
    "wound thrice": ([0], [3], [], []),
    "bent plane": ([0], [2], [], []),
    "two rings": ([0], [0, 0], [0], []),
    "walls beside": ([0, 0], [0], [0], []),
    "bent and wound": ([0, 0], [2, 2], [], []),
    "bent on wound": ([0], [6], [], []),
    "points": ([0, 0, 0], [], [], []),
}


def open_table(own, faces, size, way):
    """The table whose lines tell that a row is shut: a row of that size by it is its border (or rise)."""
    return by_columns(own, faces, size, len(of_size(faces, size - way)))


# (the function, its papers, the table of a wish for papers, what shuts a row, where the makers of rows stand)
KINDS = ((rings, filled, fill_table, own_border, 1), (cuts, raised, raise_table, own_rise, -1))


def drawn_webs(seed, many, known=True):
    """(chance, faces handed in, their web)."""
    chance = random.Random(seed)
    told = list(known_webs().values()) if known else []
    told += [some_faces(chance, points=chance.choice((5, 6, 8, 16))) for _ in range(many)]
    return [(chance, faces, Web(faces)) for faces in told]


def chained(numbers):
    """The orders, as point 10 tells them, of a group that is put together of groups of these orders."""
    numbers = list(numbers)
    for one, other in itertools.combinations(range(len(numbers)), 2):
        both = math.gcd(numbers[one], numbers[other])
        more = numbers[one] * numbers[other] // both if both else 0
        numbers[one], numbers[other] = both, more
    return [number for number in numbers if number != 1]


def is_chain(orders):
    """The rule of point 10 for orders."""
    whole = [order for order in orders if order]
    if orders != whole + [0] * (len(orders) - len(whole)) or any(order < 2 for order in whole):
        return False
    return all(later % order == 0 for order, later in zip(whole, whole[1:]))


class GroupsCase(unittest.TestCase):
    def shut_rows(self, kind, faces, size, rests):
        """Rows of which each shut row is a sum, by rests, by the test's own sums."""
        table = open_table(kind[3], faces, size, kind[4])
        return kernel_by_rests(table, len(of_size(faces, size)), rests)

    def paper(self, kind, faces, web, size, row, rests):
        """The word of a paper on the row, which holds by the test's own sums."""
        table, wide = kind[2](faces, size)
        told = kind[1](web, size, row, rests=rests)
        self.assertTrue(holds(table, wide, row, told, rests))
        return told[0]


class MakersTest(GroupsCase):
    def check(self, kind, faces, web, size, rests):
        """All that point 10 says of makers and orders."""
        many = len(of_size(faces, size))
        with self.subTest(ask=kind[0].__name__, faces=faces, size=size, rests=rests):
            group = kind[0](web, size, rests=rests)
            self.assertIs(type(group), Group)
            self.assertEqual((type(group.orders), type(group.makers)), (list, list))
            self.assertEqual(len(group.orders), len(group.makers))
            self.assertEqual(len(group), len(group.makers))
            self.assertTrue(is_chain(group.orders))
            if rests:
                self.assertTrue(all(order and rests % order == 0 for order in group.orders))
            for maker, order in zip(group.makers, group.orders):
                self.assertIs(type(maker), list)
                self.assertEqual(len(maker), many)
                self.assertEqual(maker, by_rests(maker, rests))
                self.assertFalse(any(by_rests(kind[3](faces, size, maker), rests)))
                self.check_order(kind, faces, web, size, maker, order, rests)
        return group

    def check_order(self, kind, faces, web, size, maker, order, rests):
        for times in range(1, order or 4):
            row = [times * number for number in maker]
            # Where few times are a border, a divisor of the order is, or one more than it.
            if order % times == 0 or times == order - 1:
                self.assertEqual(self.paper(kind, faces, web, size, row, rests), "barred")
        row = [order * number for number in maker]
        self.assertEqual(self.paper(kind, faces, web, size, row, rests), "found")

    def test_drawn_webs(self):
        for chance, faces, web in drawn_webs(501, 25):
            for kind in KINDS:
                for size in range(4):
                    for rests in (0, chance.choice((2, 3, 4, 6, 12)), chance.choice(RESTS)):
                        self.check(kind, faces, web, size, rests)

    def test_every_rests(self):
        webs = known_webs()
        for name, sizes in (("bent plane", (1, 2)), ("walls beside", range(4)), ("wall of five", range(4))):
            for kind, rests, size in itertools.product(KINDS, RESTS, sizes):
                self.check(kind, webs[name], Web(webs[name]), size, rests)
        faces = webs["bent on wound"]
        for kind, rests, size in itertools.product(KINDS, (2, 3, 4, 6, 12, 18, 36, 60), (1, 2)):
            self.check(kind, faces, Web(faces), size, rests)

    def test_every_time_below_the_order(self):
        for name in ("wound thrice", "bent on wound"):
            faces = known_webs()[name]
            web = Web(faces)
            for kind, size in ((KINDS[0], 1), (KINDS[1], 2)):
                for rests in (0, 6, 30):
                    group = kind[0](web, size, rests=rests)
                    for order, maker in zip(group.orders, group.makers):
                        for times in range(1, 2 * order + 1):
                            row = [times * number for number in maker]
                            word = "barred" if times % order else "found"
                            self.assertEqual(self.paper(kind, faces, web, size, row, rests), word)

    def test_rests_left_out_are_whole_numbers(self):
        for chance, faces, web in drawn_webs(502, 20):
            for ask in (rings, cuts):
                for size in range(4):
                    one, other = ask(web, size), ask(web, size, rests=0)
                    self.assertEqual((one.orders, one.makers), (other.orders, other.makers))


class NumbersTest(GroupsCase):
    def rows(self, chance, kind, faces, size, rests, group):
        """(numbers, the row that is the sum of the makers so many times and a border)."""
        many = len(of_size(faces, size))
        for figures in (1, 3, 20):
            numbers = some_row(chance, len(group), figures)
            made = kind[3](faces, size + kind[4], some_row(chance, len(of_size(faces, size + kind[4])), figures))
            summed = [sum(by * maker[at] for by, maker in zip(numbers, group.makers)) for at in range(many)]
            yield numbers, [one + other + rests * chance.randint(-9, 9) for one, other in zip(summed, made)]

    def check_sums(self, chance, kind, faces, web, size, rests):
        group = kind[0](web, size, rests=rests)
        for numbers, row in self.rows(chance, kind, faces, size, rests, group):
            kept = list(row)
            with self.subTest(ask=kind[0].__name__, faces=faces, size=size, rests=rests, row=row):
                right = [number % order if order else number for number, order in zip(numbers, group.orders)]
                self.assertEqual(group.coordinates(row), right)
                self.assertEqual(row, kept)
                self.check_rest(kind, faces, web, size, rests, group, row)

    def check_rest(self, kind, faces, web, size, rests, group, row):
        """That the row less together of its numbers is a border, or a rise; tells the numbers."""
        numbers = group.coordinates(row)
        self.assertIs(type(numbers), list)
        self.assertEqual(len(numbers), len(group))
        self.assertTrue(all(0 <= number < order for number, order in zip(numbers, group.orders) if order))
        together = group.together(numbers)
        self.assertEqual(together, by_rests(together, rests))
        left = [one - other for one, other in zip(row, together, strict=True)]
        self.assertEqual(self.paper(kind, faces, web, size, left, rests), "found")
        return numbers

    def test_sums_of_makers_and_borders(self):
        for chance, faces, web in drawn_webs(511, 25):
            for kind in KINDS:
                for size in range(4):
                    for rests in (0, chance.choice((2, 4, 6, 12)), chance.choice(RESTS)):
                        self.check_sums(chance, kind, faces, web, size, rests)

    def test_each_shut_row_has_numbers(self):
        for chance, faces, web in drawn_webs(512, 25):
            for kind in KINDS:
                for size in range(4):
                    for rests in (0, chance.choice((2, 4, 6)), chance.choice(RESTS)):
                        rows = self.shut_rows(kind, faces, size, rests)
                        row = some_sum(chance, rows, len(of_size(faces, size)))
                        with self.subTest(ask=kind[0].__name__, faces=faces, size=size, rests=rests, row=row):
                            group = kind[0](web, size, rests=rests)
                            self.check_rest(kind, faces, web, size, rests, group, row)

    def test_borders_have_noughts_alone(self):
        for chance, faces, web in drawn_webs(513, 20):
            for size in range(4):
                for rests in (0, chance.choice(RESTS)):
                    group = rings(web, size, rests=rests)
                    self.assertEqual(group.coordinates([0] * web.many(size)), [0] * len(group))
                    if size < 3:
                        made = border(web, size + 1, some_row(chance, web.many(size + 1)), rests=rests)
                        self.assertEqual(group.coordinates(made), [0] * len(group))
                    group = cuts(web, size, rests=rests)
                    if size > 0:
                        made = rise(web, size - 1, some_row(chance, web.many(size - 1)), rests=rests)
                        self.assertEqual(group.coordinates(made), [0] * len(group))

    def test_makers_have_one_number_that_is_1(self):
        for chance, faces, web in drawn_webs(514, 20):
            for kind in KINDS:
                for size in range(4):
                    group = kind[0](web, size, rests=chance.choice(RESTS))
                    for at, maker in enumerate(group.makers):
                        self.assertEqual(group.coordinates(maker), [int(at == place) for place in range(len(group))])

    def test_together(self):
        for chance, faces, web in drawn_webs(515, 25):
            for kind in KINDS:
                for size in range(4):
                    rests = chance.choice((0, 0, chance.choice(RESTS)))
                    group = kind[0](web, size, rests=rests)
                    numbers = some_row(chance, len(group))
                    kept = list(numbers)
                    right = [
                        sum(by * maker[at] for by, maker in zip(numbers, group.makers)) for at in range(web.many(size))
                    ]
                    self.assertEqual(group.together(numbers), by_rests(right, rests))
                    self.assertEqual(numbers, kept)
                    self.assertEqual(group.together([0] * len(group)), [0] * web.many(size))


class KnownTest(GroupsCase):
    def test_rings_and_cuts_of_known_webs(self):
        for name, faces in known_webs().items():
            for size in range(4):
                group = rings(Web(faces), size)
                self.assertEqual(group.orders, KNOWN[name][size], (name, size))
                free = [order for order in KNOWN[name][size] if order == 0]
                below = [order for order in KNOWN[name][size - 1] if order] if size else []
                self.assertEqual(cuts(Web(faces), size).orders, below + free, (name, size))

    def test_bent_rests(self):
        plane = Web(known_webs()["bent plane"])
        for rests in RESTS[1:]:
            twos = [2] if rests % 2 == 0 else []
            for ask in (rings, cuts):
                told = [ask(plane, size, rests=rests).orders for size in range(4)]
                self.assertEqual(told, [[rests], twos, twos, []])

    def test_rests_by_whole_numbers(self):
        for chance, faces, web in drawn_webs(521, 25):
            whole = [rings(web, size).orders for size in range(4)]
            for rests in (2, 3, 4, 6, 12, chance.choice(RESTS[1:])):
                for size in range(4):
                    parts = [math.gcd(order, rests) for order in whole[size]]
                    if size:
                        parts += [math.gcd(order, rests) for order in whole[size - 1] if order]
                    right = chained(parts)
                    self.assertEqual(rings(web, size, rests=rests).orders, right, (faces, size, rests))
                    self.assertEqual(cuts(web, size, rests=rests).orders, right, (faces, size, rests))

    def test_cuts_by_rings(self):
        for chance, faces, web in drawn_webs(522, 40):
            whole = [rings(web, size).orders for size in range(4)]
            for size in range(4):
                free = [order for order in whole[size] if order == 0]
                below = [order for order in whole[size - 1] if order] if size else []
                self.assertEqual(cuts(web, size).orders, below + free)

    def test_the_counts_of_all_sizes(self):
        for chance, faces, web in drawn_webs(523, 40):
            right = sum((1, -1)[len(face) % 2 == 0] for face in closed(faces))
            for ask in (rings, cuts):
                told = [(1, -1)[size % 2] * ask(web, size).orders.count(0) for size in range(4)]
                self.assertEqual(sum(told), right)
                primes = [(1, -1)[size % 2] * len(ask(web, size, rests=59)) for size in range(4)]
                self.assertEqual(sum(primes), right)

    def test_webs_at_the_brim(self):
        for faces in (itertools.combinations(range(15), 2), itertools.combinations(range(8), 3)):
            web = Web(list(faces))
            for rests in (0, 60):
                for ask in (rings, cuts):
                    right = [1, 91, 0] if web.size() == 1 else [1, 0, 35]
                    self.assertEqual([len(ask(web, size, rests=rests)) for size in range(3)], right)


class AlikeTest(GroupsCase):
    def equal(self, one, other, right):
        for first, second in ((one, other), (other, one)):
            self.assertIs(first == second, right)
            self.assertIs(first != second, not right)

    def test_by_orders_alone(self):
        groups = []
        for faces in known_webs().values():
            for size in range(4):
                for rests in (0, 2, 6):
                    groups += [rings(Web(faces), size, rests=rests), cuts(Web(faces), size, rests=rests)]
        for one in groups[::3]:
            for other in groups:
                self.equal(one, other, one.orders == other.orders)

    def test_other_things(self):
        for faces in ([], [(0, 1)], known_webs()["bent plane"]):
            for size in range(3):
                group = rings(Web(faces), size)
                things = (None, 0, len(group), group.orders, group.makers, tuple(group.orders), repr(group), object())
                for thing in things:
                    self.equal(group, thing, False)

    def test_repr_and_len(self):
        self.assertEqual(repr(rings(Web(), 0)), "Group([])")
        self.assertEqual(repr(rings(Web(known_webs()["walls beside"]), 0)), "Group([0, 0])")
        self.assertEqual(repr(cuts(Web(known_webs()["bent plane"]), 2)), "Group([2])")
        for chance, faces, web in drawn_webs(531, 15):
            for size in range(4):
                for rests in (0, chance.choice(RESTS)):
                    for ask in (rings, cuts):
                        group = ask(web, size, rests=rests)
                        self.assertEqual(repr(group), "Group(" + repr(group.orders) + ")")
                        self.assertEqual(len(group), len(group.orders))

    def test_equal_webs_have_the_same_makers(self):
        for chance, faces, web in drawn_webs(532, 15):
            others = closed(faces)
            chance.shuffle(others)
            for ask in (rings, cuts):
                for size in range(4):
                    rests = chance.choice((0, chance.choice(RESTS)))
                    one, other = ask(web, size, rests=rests), ask(Web(others), size, rests=rests)
                    self.assertEqual((one.orders, one.makers), (other.orders, other.makers))


class KeptTest(GroupsCase):
    def test_what_a_holder_does_changes_nothing(self):
        for chance, faces, web in drawn_webs(541, 10):
            for kind in KINDS:
                for size in range(4):
                    rests = chance.choice((0, 2, 6))
                    group, bent = kind[0](web, size, rests=rests), kind[0](web, size, rests=rests)
                    numbers = some_row(chance, len(group), 2)
                    right = copy.deepcopy((group.orders, group.makers))
                    row = group.together(numbers)
                    told = group.coordinates(row)
                    for maker in bent.makers:
                        maker.append(1)
                        maker[0] = 99
                    bent.makers.append([7])
                    bent.orders.insert(0, 5)
                    bent.coordinates(row).append(3)
                    bent.together(numbers).clear()
                    for asked in (group, kind[0](web, size, rests=rests)):
                        self.assertEqual((asked.orders, asked.makers), right)
                    self.assertEqual((bent.coordinates(row), bent.together(numbers)), (told, row))
                    self.assertEqual((len(bent), repr(bent)), (len(group), repr(group)))
                    self.assertEqual(bent, group)


class RefusedTest(GroupsCase):
    def test_sizes_and_rests(self):
        for faces in ([], [(0, 1, 2), (2, 3)], [(0, 1, 2, 3), (4,)]):
            for ask in (rings, cuts):
                for size in (-1, 4, -2, 5, 10 ** 29, -(10 ** 29)):
                    for rests in (0, 2, 60) + BAD_RESTS:
                        with self.assertRaises(errors.BadSize):
                            ask(Web(faces), size, rests=rests)
                for size in range(4):
                    for rests in BAD_RESTS:
                        with self.assertRaises(errors.BadRests):
                            ask(Web(faces), size, rests=rests)

    def test_lengths(self):
        for chance, faces, web in drawn_webs(551, 10):
            for ask in (rings, cuts):
                for size in range(4):
                    group = ask(web, size, rests=chance.choice(RESTS))
                    many = web.many(size)
                    for length in {0, many - 1, many + 1, 400} - {-1, many}:
                        # Neither is any number of these a shut row's: the length goes ahead.
                        with self.assertRaises(errors.BadRow):
                            group.coordinates([1] + [0] * (length - 1) if length else [])
                    for length in {0, len(group) - 1, len(group) + 1, 400} - {-1, len(group)}:
                        with self.assertRaises(errors.BadRow):
                            group.together([1] * length)

    def test_rows_that_are_not_shut(self):
        words = []
        for chance, faces, web in drawn_webs(552, 30):
            for kind in KINDS:
                for size in range(4):
                    for rests in (0, 2, 4, chance.choice(RESTS)):
                        for figures in (1, 25):
                            words.append(self.check_shut(chance, kind, faces, web, size, rests, figures))
        self.assertGreater(words.count("NotShut"), 300)
        self.assertGreater(words.count("shut"), 300)

    def check_shut(self, chance, kind, faces, web, size, rests, figures):
        row = some_row(chance, len(of_size(faces, size)), figures)
        kept = list(row)
        group = kind[0](web, size, rests=rests)
        if any(by_rests(kind[3](faces, size, row), rests)):
            with self.assertRaises(errors.NotShut):
                group.coordinates(row)
            self.assertEqual(row, kept)
            return "NotShut"
        group.coordinates(row)
        return "shut"

    def test_a_multiple_that_is_shut_of_a_row_that_is_not(self):
        web = Web([(0, 1), (1, 2), (0, 2)])
        for rests in range(2, 61):
            group = rings(web, 1, rests=rests)
            self.assertEqual(group.coordinates([rests, 3 * rests, 0]), [0])
            with self.assertRaises(errors.NotShut):
                group.coordinates([1, 0, 0])
            if rests % 2 == 0:
                self.assertEqual(len(group.coordinates([rests // 2, rests // 2, rests // 2])), 1)
                self.assertNotEqual(group.coordinates([rests // 2, rests // 2, rests // 2]), [0])

    def test_names_are_as_the_interface_tells(self):
        for ask in (rings, cuts):
            parameters = inspect.signature(ask).parameters
            self.assertEqual(list(parameters), ["web", "size", "rests"])
            self.assertEqual(parameters["rests"].kind, inspect.Parameter.KEYWORD_ONLY)
            self.assertEqual(parameters["rests"].default, 0)
        for name, wished in (("coordinates", ["self", "row"]), ("together", ["self", "numbers"])):
            self.assertEqual(list(inspect.signature(vars(Group)[name]).parameters), wished)
        for name in ("__len__", "__eq__", "__repr__"):
            self.assertIn(name, vars(Group))
        self.assertLessEqual({"orders", "makers"}, set(vars(rings(Web(), 0))))


if __name__ == "__main__":
    unittest.main()

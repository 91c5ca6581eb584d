"""cupweb/forms.py: points 2 and 7, and the interface's section of that name."""

import copy
import inspect
import itertools
import math
import random
import unittest

from cupweb.forms import Form

FIELDS = ("left", "right", "unleft", "unright", "steps")


def slope(lines, wide, steps):
    """The table with the steps on its slope and nought elsewhere."""
    told = [[0] * wide for _ in range(lines)]
    for at, step in enumerate(steps):
        told[at][at] = step
    return told


def product(one, other, wide):
    """One table by another one that is so wide."""
    return [[sum(line[at] * other[at][column] for at in range(len(line))) for column in range(wide)] for line in one]


def determinant(square):
    """By the first line, column by column."""
    if not square:
        return 1
    total = 0
    for at, number in enumerate(square[0]):
        if number:
            lesser = [line[:at] + line[at + 1:] for line in square[1:]]
            total += (-1) ** at * number * determinant(lesser)
    return total


def divisor_of_squares(table, wide, many):
    """The greatest divisor of the determinants of all squares of so many lines and columns."""
    divisor = 0
    for lines in itertools.combinations(table, many):
        for columns in itertools.combinations(range(wide), many):
            divisor = math.gcd(divisor, determinant([[line[column] for column in columns] for line in lines]))
    return divisor


def some_table(chance, lines, wide, most):
    return [[chance.randint(-most, most) for _ in range(wide)] for _ in range(lines)]


def stirred(chance, table, wide, times):
    """The table with lines and columns added to one another, exchanged and turned."""
    table = copy.deepcopy(table)
    for _ in range(times):
        by = chance.randint(-3, 3)
        if len(table) > 1:
            one, other = chance.sample(range(len(table)), 2)
            table[one] = [a + by * b for a, b in zip(table[one], table[other])]
            if chance.random() < 0.3:
                table[one], table[other] = table[other], [-number for number in table[one]]
        if wide > 1:
            one, other = chance.sample(range(wide), 2)
            swap = chance.random() < 0.3
            for line in table:
                line[one] += by * line[other]
                if swap:
                    line[one], line[other] = line[other], -line[one]
    return table


class FormCase(unittest.TestCase):
    def check(self, table, wide):
        """All that point 7 says of a table's form."""
        kept = copy.deepcopy(table)
        form = Form(table, wide)
        lines = len(table)
        with self.subTest(table=kept, wide=wide):
            self.assertEqual(table, kept)
            self.check_lengths(form, lines, wide)
            self.check_steps(form.steps, min(lines, wide))
            turned = product(product(form.left, table, wide), form.right, wide)
            self.assertEqual(turned, slope(lines, wide, form.steps))
            for one, other, many in ((form.left, form.unleft, lines), (form.right, form.unright, wide)):
                self.assertEqual(product(one, other, many), slope(many, many, [1] * many))
                self.assertEqual(product(other, one, many), slope(many, many, [1] * many))
            self.assertEqual([form.step(at) for at in range(len(form.steps))], form.steps)
        return form

    def check_lengths(self, form, lines, wide):
        self.assertIs(type(form.steps), list)
        for field, many in (("left", lines), ("unleft", lines), ("right", wide), ("unright", wide)):
            table = getattr(form, field)
            self.assertIs(type(table), list)
            self.assertEqual(len(table), many)
            for line in table:
                self.assertIs(type(line), list)
                self.assertEqual(len(line), many)
                self.assertTrue(all(type(number) is int for number in line))

    def check_steps(self, steps, most):
        self.assertLessEqual(len(steps), most)
        for step in steps:
            self.assertIs(type(step), int)
            self.assertGreater(step, 0)
        for step, after in zip(steps, steps[1:]):
            self.assertEqual(after % step, 0)


class TurningsTest(FormCase):
    def test_by_hand(self):
        for table, wide, steps in (
            ([], 0, []),
            ([], 3, []),
            ([[], [], []], 0, []),
            ([[0]], 1, []),
            ([[1]], 1, [1]),
            ([[-1]], 1, [1]),
            ([[-6]], 1, [6]),
            ([[4], [6]], 1, [2]),
            ([[4, 6]], 2, [2]),
            ([[0, 0], [0, 5]], 2, [5]),
            ([[2, 0], [0, 3]], 2, [1, 6]),
            ([[4, 0], [0, 6]], 2, [2, 12]),
            ([[6, 0], [0, 2]], 2, [2, 6]),
            ([[6, 0, 0], [0, 10, 0], [0, 0, 15]], 3, [1, 30, 30]),
            ([[2, 4, 4], [-6, 6, 12], [10, -4, -16]], 3, [2, 6, 12]),
            ([[3, 3], [3, 3]], 2, [3]),
            ([[1, 2, 3], [2, 4, 6], [-3, -6, -9]], 3, [1]),
            ([[-1, 1, 0], [-1, 0, 1], [0, -1, 1]], 3, [1, 1]),
        ):
            self.assertEqual(self.check(table, wide).steps, steps)

    def test_all_shapes_to_six(self):
        chance = random.Random(11)
        for lines in range(7):
            for wide in range(7):
                for most in (0, 1, 2, 9, 60, 10 ** 9 - 1):
                    self.check(some_table(chance, lines, wide, most), wide)

    def test_mostly_noughts(self):
        chance = random.Random(12)
        for _ in range(120):
            lines, wide = chance.randint(1, 6), chance.randint(1, 6)
            table = [[chance.choice((0, 0, 0, 2, -3, 4, 6)) for _ in range(wide)] for _ in range(lines)]
            self.check(table, wide)

    def test_five_to_twelve(self):
        chance = random.Random(13)
        for most in (1, 9, 1000, 10 ** 9 - 1):
            for _ in range(6):
                lines, wide = chance.randint(5, 12), chance.randint(5, 12)
                self.check(some_table(chance, lines, wide, most), wide)

    def test_lines_alike_and_lines_some_times_as_great(self):
        chance = random.Random(14)
        for _ in range(80):
            lines, wide = chance.randint(1, 3), chance.randint(1, 6)
            table = some_table(chance, lines, wide, 30)
            for _ in range(chance.randint(1, 4)):
                by = chance.choice((1, 1, -1, 0, 2, 3, -7, 12))
                table.append([by * number for number in chance.choice(table)])
            chance.shuffle(table)
            self.assertLessEqual(len(self.check(table, wide).steps), lines)

    def test_columns_alike(self):
        chance = random.Random(15)
        for _ in range(40):
            lines, wide = chance.randint(1, 6), chance.randint(1, 3)
            table = [line + [3 * line[0]] + line for line in some_table(chance, lines, wide, 30)]
            self.assertLessEqual(len(self.check(table, 2 * wide + 1).steps), wide)

    def test_at_the_bounds(self):
        chance = random.Random(16)
        most = 10 ** 9 - 1
        self.check(some_table(chance, 12, 12, most), 12)
        self.check(some_table(chance, 12, 11, most), 11)
        self.check(some_table(chance, 11, 12, most), 12)
        self.check([[chance.choice((-1, 1)) * (most - chance.randint(0, 9)) for _ in range(12)] for _ in range(12)], 12)
        self.assertEqual(self.check([[most] * 12 for _ in range(12)], 12).steps, [most])
        diagonal = [[chance.randint(1, most) if at == column else 0 for column in range(12)] for at in range(12)]
        self.check(diagonal, 12)
        self.check([], 12)
        self.check([[] for _ in range(12)], 0)


class StepsTest(FormCase):
    def test_steps_set_ahead(self):
        chance = random.Random(21)
        for _ in range(150):
            lines, wide = chance.randint(1, 7), chance.randint(1, 7)
            steps = []
            for _ in range(chance.randint(0, min(lines, wide))):
                last = steps[-1] if steps else 1
                steps.append(last * chance.choice((1, 1, 1, 2, 2, 3, 4, 5, 6, 30)))
            table = stirred(chance, slope(lines, wide, steps), wide, 12)
            self.assertEqual(self.check(table, wide).steps, steps)

    def test_twelve_steps_set_ahead(self):
        chance = random.Random(22)
        for steps in (
            [1] * 12,
            [7] * 12,
            [1, 1, 2, 2, 4, 12, 12, 60, 60, 120, 120, 240],
            [2 ** at for at in range(12)],
            [1, 1, 1, 3, 3, 9],
        ):
            table = stirred(chance, slope(12, 12, steps), 12, 30)
            self.assertEqual(self.check(table, 12).steps, steps)

    def test_a_slope_that_is_no_chain(self):
        chance = random.Random(23)
        for _ in range(60):
            numbers = [chance.randint(0, 60) for _ in range(3)]
            table = stirred(chance, slope(3, 3, numbers), 3, 6)
            a, b, c = numbers
            first = math.gcd(a, b, c)
            second = math.gcd(a * b, a * c, b * c)
            products = [first, second, a * b * c]
            steps, last = [], 1
            for number in products:
                if number:
                    steps.append(number // last)
                    last = number
            self.assertEqual(self.check(table, 3).steps, steps)

    def test_the_products_of_the_first_steps_are_divisors_of_squares(self):
        chance = random.Random(24)
        for _ in range(60):
            lines, wide = chance.randint(1, 5), chance.randint(1, 5)
            table = some_table(chance, lines, wide, chance.choice((1, 4, 12, 1000)))
            if chance.random() < 0.5:
                table = [[2 * number if chance.random() < 0.7 else 6 * number for number in line] for line in table]
            form = self.check(table, wide)
            reached = 1
            for many in range(1, min(lines, wide, 3) + 1):
                reached *= form.step(many - 1)
                with self.subTest(table=table, many=many):
                    self.assertEqual(reached, divisor_of_squares(table, wide, many))

    def test_the_first_step_divides_all_numbers(self):
        chance = random.Random(25)
        for _ in range(60):
            lines, wide = chance.randint(1, 12), chance.randint(1, 12)
            divisor = chance.randint(1, 40)
            table = [[divisor * chance.randint(-50, 50) for _ in range(wide)] for _ in range(lines)]
            self.assertEqual(self.check(table, wide).step(0), math.gcd(*[n for line in table for n in line]))

    def test_step_is_nought_where_there_is_none(self):
        for table, wide in (([], 0), ([], 5), ([[], []], 0), ([[0, 0]], 2), ([[2, 0], [0, 3]], 2), ([[1, 2], [2, 4]], 2)):
            form = Form(table, wide)
            many = len(form.steps)
            for at in (many, many + 1, many + 2, 12, 13, 400, 10 ** 29, -1, -many - 1):
                with self.subTest(table=table, at=at):
                    self.assertEqual(form.step(at), 0)


class KeptTest(FormCase):
    TABLE = [[2, 4, 4], [-6, 6, 12], [10, -4, -16], [0, 0, 0]]

    def told(self, form):
        return copy.deepcopy([getattr(form, field) for field in FIELDS])

    def test_changing_the_table_behind_the_call_changes_nothing(self):
        for table, wide in ((self.TABLE, 3), ([[1, 0], [0, 1]], 2), ([[0, 0]], 2), ([[], []], 0)):
            handed = copy.deepcopy(table)
            form = Form(handed, wide)
            right = self.told(form)
            for line in handed:
                line[:] = [number + 5 for number in line] + [9]
            handed.append([8])
            self.assertEqual(self.told(form), right)
            self.assertEqual(form.step(0), (right[4] + [0])[0])

    def test_asked_again_the_same_is_told(self):
        chance = random.Random(31)
        tables = [(self.TABLE, 3)] + [(some_table(chance, 5, 6, 99), 6) for _ in range(10)]
        for table, wide in tables:
            form = Form(table, wide)
            right = self.told(form)
            self.assertEqual(self.told(Form(copy.deepcopy(table), wide)), right)
            self.assertEqual(self.told(form), right)
            self.assertEqual([form.step(at) for at in range(3)], [form.step(at) for at in range(3)])

    def test_every_list_stands_for_itself(self):
        for table, wide in ((self.TABLE, 3), ([[1, 0], [0, 1]], 2), ([[0, 0]], 2)):
            form = Form(table, wide)
            lists = [getattr(form, field) for field in FIELDS] + list(table) + [table]
            for field in FIELDS[:4]:
                lists.extend(getattr(form, field))
            self.assertEqual(len({id(held) for held in lists}), len(lists))

    def test_what_a_holder_does_to_one_form_reaches_no_other_and_no_step(self):
        right = self.told(Form(self.TABLE, 3))
        form = Form(self.TABLE, 3)
        form.steps.insert(0, 77)
        for field in FIELDS[:4]:
            for line in getattr(form, field):
                line[0] += 1
        self.assertEqual([form.step(at) for at in range(4)], [2, 6, 12, 0])
        self.assertEqual(self.told(Form(self.TABLE, 3)), right)

    def test_names_are_as_the_interface_tells(self):
        self.assertEqual(list(inspect.signature(Form).parameters), ["table", "wide"])
        self.assertIn("step", vars(Form))
        self.assertEqual(list(inspect.signature(Form.step).parameters), ["self", "at"])
        for field in FIELDS:
            self.assertIn(field, vars(Form([[1]], 1)))


if __name__ == "__main__":
    unittest.main()

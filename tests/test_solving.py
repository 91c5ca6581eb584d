"""cupweb/solving.py: points 2, 4 and 8, and the interface's section of that name."""

import copy
import inspect
import itertools
import random
import unittest

from cupweb import errors
from cupweb.solving import judged, solved
from drawn import BAD_RESTS, RESTS, bent_papers, holds, line_sums, some_number, some_row, some_table, turned_at_one

MOST = (0, 1, 2, 9, 60, 10 ** 9 - 1)


class SolvingCase(unittest.TestCase):
    def check(self, table, wide, wish, rests):
        """All that point 8 says of what is told; tells it."""
        kept = copy.deepcopy((table, wish))
        told = solved(table, wide, wish, rests=rests)
        with self.subTest(table=kept[0], wide=wide, wish=kept[1], rests=rests):
            self.assertEqual((table, wish), kept)
            self.assertIs(type(told), tuple)
            self.assertIs(type(told[1]), list)
            self.assertTrue(all(type(number) is int for number in told[1]))
            self.check_form(told, len(table), wide, rests)
            self.assertTrue(holds(table, wide, wish, told, rests))
            self.assertEqual(solved(copy.deepcopy(table), wide, list(wish), rests=rests), told)
            self.assertIs(judged(table, wide, wish, told, rests=rests), True)
        return told

    def check_form(self, told, lines, wide, rests):
        if told[0] == "found":
            self.assertEqual((len(told), len(told[1])), (2, wide))
        else:
            self.assertEqual((told[0], len(told), len(told[1])), ("barred", 3, lines))
            self.assertIs(type(told[2]), int)
            self.assertTrue(told[2] == rests if rests else told[2] == 0 or told[2] >= 2)
        if rests:
            self.assertTrue(all(0 <= number < rests for number in told[1]))

    def wishes(self, chance, table, wide):
        """(a wish, whether it is a sum of the columns by how it came) for a table."""
        reached = line_sums(table, some_row(chance, wide))
        near = line_sums(table, some_row(chance, wide, 1))
        return [
            (reached, True), (near, True), ([0] * len(table), True), (turned_at_one(chance, reached), False),
            (turned_at_one(chance, near), False), (some_row(chance, len(table)), False),
            (some_row(chance, len(table), 1), False),
        ]

    def check_wishes(self, chance, table, wide, rests):
        told = []
        for wish, reached in self.wishes(chance, table, wide):
            paper = self.check(table, wide, wish, rests)
            told.append(paper[0])
            if reached:
                self.assertEqual(paper[0], "found", (table, wide, wish, rests))
        return told


class SolvedTest(SolvingCase):
    def test_by_hand(self):
        for table, wide, wish, rests, word in (
            ([], 0, [], 0, "found"),
            ([], 3, [], 0, "found"),
            ([], 3, [], 7, "found"),
            ([[], []], 0, [0, 0], 0, "found"),
            ([[], []], 0, [0, 1], 0, "barred"),
            ([[], []], 0, [0, 6], 6, "found"),
            ([[], []], 0, [0, 7], 6, "barred"),
            ([[2]], 1, [4], 0, "found"),
            ([[2]], 1, [3], 0, "barred"),
            ([[2]], 1, [3], 5, "found"),
            ([[2]], 1, [3], 4, "barred"),
            ([[2]], 1, [3], 60, "barred"),
            ([[0]], 1, [0], 0, "found"),
            ([[0]], 1, [2], 0, "barred"),
            ([[0]], 1, [2], 2, "found"),
            ([[2, 3]], 2, [1], 0, "found"),
            ([[4, 6]], 2, [1], 0, "barred"),
            ([[4, 6]], 2, [1], 9, "found"),
            ([[2], [3]], 1, [2, 3], 0, "found"),
            ([[2], [3]], 1, [3, 2], 0, "barred"),
            ([[2], [3]], 1, [3, 2], 5, "found"),
            ([[1, 1], [1, -1]], 2, [1, 0], 0, "barred"),
            ([[1, 1], [1, -1]], 2, [1, 0], 3, "found"),
        ):
            self.assertEqual(self.check(table, wide, wish, rests)[0], word, (table, wish, rests))

    def test_barred_by_nought_and_by_more(self):
        self.assertEqual(self.check([[0], [3]], 1, [1, 3], 0)[2], 0)
        self.assertEqual(self.check([[6]], 1, [3], 0)[2], 6)
        self.assertEqual(self.check([[6]], 1, [3], 12)[2], 12)

    def test_none_to_five_lines_and_columns(self):
        chance = random.Random(101)
        words = []
        for lines in range(6):
            for wide in range(6):
                for most in MOST:
                    table = some_table(chance, lines, wide, most)
                    for rests in (0, 2, 60, chance.choice(RESTS)):
                        words.extend(self.check_wishes(chance, table, wide, rests))
        self.assertGreater(words.count("found"), 500)
        self.assertGreater(words.count("barred"), 500)

    def test_every_rests(self):
        chance = random.Random(102)
        for rests in RESTS:
            for _ in range(4):
                lines, wide = chance.randint(1, 4), chance.randint(1, 4)
                table = [[chance.choice((0, 1, 2, 3, 4, 6, 10, -12, 15, 30, -60)) for _ in range(wide)]
                         for _ in range(lines)]
                self.check_wishes(chance, table, wide, rests)

    def test_five_to_twelve(self):
        chance = random.Random(103)
        for most in (1, 9, 10 ** 9 - 1):
            for _ in range(4):
                lines, wide = chance.randint(5, 12), chance.randint(5, 12)
                table = some_table(chance, lines, wide, most)
                for rests in (0, chance.choice(RESTS)):
                    self.check_wishes(chance, table, wide, rests)

    def test_at_the_bounds(self):
        chance = random.Random(104)
        for lines, wide in ((12, 12), (11, 12), (12, 11)):
            for rests in (0, 2, 60):
                self.check_wishes(chance, some_table(chance, lines, wide, 10 ** 9 - 1), wide, rests)

    def test_lines_some_times_as_great(self):
        chance = random.Random(105)
        for _ in range(40):
            wide = chance.randint(1, 5)
            table = some_table(chance, chance.randint(1, 3), wide, 12)
            table += [[chance.choice((1, -1, 0, 2, 6)) * number for number in chance.choice(table)] for _ in range(2)]
            for rests in (0, chance.choice(RESTS)):
                self.check_wishes(chance, table, wide, rests)

    def test_found_just_where_some_numbers_do(self):
        chance = random.Random(106)
        for rests in (2, 3, 4, 6):
            for _ in range(12):
                lines, wide = chance.randint(0, 2), chance.randint(0, 2)
                table = some_table(chance, lines, wide, 6)
                reached = {
                    tuple(number % rests for number in line_sums(table, numbers))
                    for numbers in itertools.product(range(rests), repeat=wide)
                }
                for wish in itertools.product(range(rests), repeat=lines):
                    word = "found" if wish in reached else "barred"
                    self.assertEqual(self.check(table, wide, list(wish), rests)[0], word)

    def test_rests_left_out_are_whole_numbers(self):
        chance = random.Random(107)
        for _ in range(40):
            lines, wide = chance.randint(0, 4), chance.randint(0, 4)
            table = some_table(chance, lines, wide, 9)
            wish = some_row(chance, lines, 2)
            told = solved(table, wide, wish)
            self.assertEqual(told, solved(table, wide, wish, rests=0))
            self.assertIs(judged(table, wide, wish, told), True)

    def test_a_told_list_is_a_new_one(self):
        for table, wide, wish in (([[1, 0], [0, 1]], 2, [5, 6]), ([[2]], 1, [3]), ([[0, 0]], 2, [0]), ([], 0, [])):
            for rests in (0, 8):
                told = solved(table, wide, wish, rests=rests)
                right = copy.deepcopy(told)
                kept = copy.deepcopy((table, wish))
                told[1].insert(0, 99)
                self.assertEqual(solved(table, wide, wish, rests=rests), right)
                self.assertEqual((table, wish), kept)

    def test_changing_what_was_handed_in_changes_nothing_that_was_told(self):
        table, wish = [[1, 0], [0, 1]], [5, 6]
        told = solved(table, 2, wish)
        table[0][0] = 7
        wish.append(8)
        self.assertEqual(told, ("found", [5, 6]))


class JudgedTest(SolvingCase):
    def check_bent(self, chance, table, wide, wish, rests):
        """Tells the answers for papers bent from the told one."""
        answers = []
        for paper in bent_papers(chance, solved(table, wide, wish, rests=rests), rests):
            kept = copy.deepcopy((table, wish, paper))
            with self.subTest(table=table, wide=wide, wish=wish, paper=paper, rests=rests):
                answer = judged(table, wide, wish, paper, rests=rests)
                self.assertIs(answer, holds(table, wide, wish, paper, rests))
                self.assertEqual((table, wish, paper), kept)
                self.assertIs(judged(table, wide, wish, paper, rests=rests), answer)
                answers.append((paper[0], answer))
        return answers

    def test_bent_papers(self):
        chance = random.Random(111)
        answers = []
        for lines in range(5):
            for wide in range(5):
                table = some_table(chance, lines, wide, chance.choice((1, 4, 60)))
                for rests in (0, 2, 60, chance.choice(RESTS)):
                    for wish, reached in self.wishes(chance, table, wide):
                        answers.extend(self.check_bent(chance, table, wide, wish, rests))
        for word in ("found", "barred"):
            self.assertGreater(answers.count((word, True)), 300)
            self.assertGreater(answers.count((word, False)), 300)

    def test_bent_papers_of_five_to_twelve(self):
        chance = random.Random(112)
        for rests in (0, 6, 60):
            lines, wide = chance.randint(5, 12), chance.randint(5, 12)
            table = some_table(chance, lines, wide, 10 ** 9 - 1)
            for wish in (line_sums(table, some_row(chance, wide)), some_row(chance, lines)):
                self.check_bent(chance, table, wide, wish, rests)

    def test_many(self):
        for many, rests, right in (
            (0, 0, True), (1, 0, False), (2, 0, True), (3, 0, True), (-1, 0, False), (-2, 0, False), (-3, 0, False),
            (6, 6, True), (0, 6, False), (12, 6, False), (3, 6, False), (-6, 6, False), (1, 6, False),
        ):
            self.assertIs(judged([[0]], 1, [1], ("barred", [1], many), rests=rests), right, (many, rests))
        self.assertIs(judged([[2]], 1, [3], ("barred", [1], 0)), False)
        self.assertIs(judged([[2]], 1, [4], ("barred", [1], 2)), False)
        self.assertIs(judged([[6]], 1, [3], ("barred", [1], 6)), True)
        self.assertIs(judged([[6]], 1, [3], ("barred", [1], 2)), True)
        self.assertIs(judged([[6]], 1, [3], ("barred", [1], 4)), False)

    def test_numbers_count_by_their_rests_alone(self):
        for more in (0, 7, -7, 7 * 10 ** 20):
            self.assertIs(judged([[3]], 1, [1], ("found", [5 + more]), rests=7), True)
            self.assertIs(judged([[3]], 1, [1 + more], ("found", [5]), rests=7), True)
            self.assertIs(judged([[7]], 1, [1], ("barred", [1 + more], 7), rests=7), True)
        self.assertIs(judged([[3]], 1, [1], ("found", [12])), False)

    def test_lengths(self):
        for numbers in ([], [1], [1, 1, 0], [1, 1, 5]):
            self.assertIs(judged([[1, 1]], 2, [2], ("found", numbers)), False)
            self.assertIs(judged([[0], [0]], 1, [1, 1], ("barred", numbers, 0)), False)
        self.assertIs(judged([[1, 1]], 2, [2], ("found", [1, 1])), True)
        self.assertIs(judged([[0], [0]], 1, [1, 1], ("barred", [1, 1], 0)), True)
        self.assertIs(judged([], 0, [], ("found", [])), True)
        self.assertIs(judged([], 2, [], ("found", [4, 5])), True)
        self.assertIs(judged([], 2, [], ("found", [4])), False)
        self.assertIs(judged([], 0, [], ("barred", [], 0)), False)


class RefusedTest(unittest.TestCase):
    def test_rests_that_are_none(self):
        table, wish, paper = [[2]], [3], ("barred", [1], 2)
        for rests in BAD_RESTS:
            with self.subTest(rests=rests):
                with self.assertRaises(errors.BadRests):
                    solved(table, 1, wish, rests=rests)
                with self.assertRaises(errors.BadRests):
                    judged(table, 1, wish, paper, rests=rests)
                with self.assertRaises(errors.BadRests):
                    judged(table, 1, wish, ("found", []), rests=rests)
                with self.assertRaises(errors.BadRests):
                    solved([], 0, [], rests=rests)
        self.assertEqual((table, wish, paper), ([[2]], [3], ("barred", [1], 2)))

    def test_rests_that_are_none_to_refuse(self):
        chance = random.Random(121)
        for rests in RESTS:
            number = some_number(chance)
            told = solved([[1]], 1, [number], rests=rests)
            self.assertEqual(told, ("found", [number % rests if rests else number]))
            self.assertIs(judged([[1]], 1, [number], told, rests=rests), True)

    def test_names_are_as_the_interface_tells(self):
        for function, names in ((solved, "table wide wish rests"), (judged, "table wide wish told rests")):
            parameters = inspect.signature(function).parameters
            self.assertEqual(list(parameters), names.split())
            self.assertEqual(parameters["rests"].kind, inspect.Parameter.KEYWORD_ONLY)
            self.assertEqual(parameters["rests"].default, 0)


if __name__ == "__main__":
    unittest.main()

"""cupweb/papers.py: points 2, 4, 8 and 9, and the interface's section of that name."""

import copy
import inspect
import itertools
import random
import unittest

from cupweb import errors
from cupweb.papers import filled, raised, shows_filled, shows_raised
from cupweb.web import Web
from drawn import (
    BENT_PLANE, RESTS, bent_papers, by_rests, fill_table, holds, of_size, own_border, own_rise, raise_table, refusals,
    some_faces, some_row, turned_at_one,
)

KINDS = ((filled, shows_filled, fill_table, own_border, 1), (raised, shows_raised, raise_table, own_rise, -1))


def drawn_webs(seed, many):
    """(chance, faces handed in, their web), with the web without faces and the bent plane."""
    chance = random.Random(seed)
    told = [[], BENT_PLANE] + [some_faces(chance, points=chance.choice((5, 6, 8, 16))) for _ in range(many)]
    return [(chance, faces, Web(faces)) for faces in told]


class PapersCase(unittest.TestCase):
    def check(self, kind, faces, web, size, row, rests):
        """All that points 8 and 9 say of a paper; tells it."""
        ask, shows, table_of = kind[:3]
        kept = list(row)
        table, wide = table_of(faces, size)
        with self.subTest(ask=ask.__name__, faces=faces, size=size, row=kept, rests=rests):
            told = ask(web, size, row, rests=rests)
            self.assertIs(type(told), tuple)
            self.assertIs(type(told[1]), list)
            self.assertEqual((told[0], len(told)), ("found", 2) if told[0] == "found" else ("barred", 3))
            self.assertTrue(holds(table, wide, row, told, rests))
            if told[0] == "barred":
                self.assertTrue(told[2] == rests if rests else told[2] == 0 or told[2] >= 2)
            if rests:
                self.assertTrue(all(0 <= number < rests for number in told[1]))
            self.assertIs(shows(web, size, row, told, rests=rests), True)
            self.assertEqual(ask(Web(faces[::-1]), size, list(row), rests=rests), told)
            self.assertEqual(row, kept)
        return told

    def rows(self, chance, kind, faces, size, rests):
        """(a row, whether it is found by how it came)."""
        many = len(of_size(faces, size))
        function, way = kind[3:]
        made = function(faces, size + way, some_row(chance, len(of_size(faces, size + way))))
        small = function(faces, size + way, some_row(chance, len(of_size(faces, size + way)), 1))
        near = [number + rests * chance.randint(-3, 3) for number in made]
        return [
            (made, True), (small, True), (near, True), ([0] * many, True), (turned_at_one(chance, made), False),
            (some_row(chance, many), False), (some_row(chance, many, 1), False),
        ]


class AskedTest(PapersCase):
    def test_by_hand(self):
        web = Web([(0, 1), (1, 2), (0, 2), (3,)])
        for ask, size, row, rests, word in (
            (filled, 0, [1, 0, -1, 0], 0, "found"),
            (filled, 0, [1, 0, 0, 0], 0, "barred"),
            (filled, 0, [1, 0, 0, -1], 0, "barred"),
            (filled, 0, [1, 3, 0, 0], 4, "found"),
            (filled, 1, [1, -1, 1], 0, "barred"),
            (filled, 1, [0, 0, 0], 0, "found"),
            (filled, 1, [2, 4, -6], 2, "found"),
            (raised, 1, [1, 2, 1], 0, "found"),
            (raised, 1, [1, 1, 1], 0, "barred"),
            (raised, 1, [1, 1, 1], 60, "barred"),
            (raised, 0, [0, 0, 0, 0], 0, "found"),
            (raised, 0, [0, 0, 0, 5], 0, "barred"),
            (raised, 0, [0, 0, 5, 5], 5, "found"),
        ):
            self.assertEqual(ask(web, size, row, rests=rests)[0], word, (ask.__name__, size, row, rests))

    def test_drawn_rows(self):
        words = []
        for chance, faces, web in drawn_webs(401, 50):
            for kind in KINDS:
                for size in range(4):
                    for rests in (0, chance.choice((2, 60)), chance.choice(RESTS)):
                        for row, made in self.rows(chance, kind, faces, size, rests):
                            told = self.check(kind, faces, web, size, row, rests)
                            words.append((kind[0].__name__, told[0]))
                            if made:
                                self.assertEqual(told[0], "found", (kind[0], faces, size, row, rests))
        for name, word in itertools.product(("filled", "raised"), ("found", "barred")):
            self.assertGreater(words.count((name, word)), 100)

    def test_every_rests(self):
        chance = random.Random(402)
        faces = [(0, 1, 2, 3), (3, 4, 5), (5, 0), (7,), (1, 4)]
        for rests in RESTS:
            for kind in KINDS:
                for size in range(4):
                    for row, made in self.rows(chance, kind, faces, size, rests):
                        told = self.check(kind, faces, Web(faces), size, row, rests)
                        self.assertTrue(told[0] == "found" or not made)

    def test_rests_left_out_are_whole_numbers(self):
        for chance, faces, web in drawn_webs(403, 20):
            for ask, shows, table_of, function, way in KINDS:
                for size in range(4):
                    row = some_row(chance, len(of_size(faces, size)), 2)
                    told = ask(web, size, row)
                    self.assertEqual(told, ask(web, size, row, rests=0))
                    self.assertIs(shows(web, size, row, told), True)

    def test_at_the_ends(self):
        for chance, faces, web in drawn_webs(404, 30):
            for ask, size in ((filled, 3), (raised, 0)):
                many = len(of_size(faces, size))
                for rests in RESTS:
                    rows = [[0] * many, some_row(chance, many, 1), [rests * number for number in some_row(chance, many)]]
                    for row in rows:
                        told = ask(web, size, row, rests=rests)
                        if any(by_rests(row, rests)):
                            self.assertEqual(told[0], "barred")
                        else:
                            self.assertEqual(told, ("found", []))

    def test_a_ring_that_is_half_a_border(self):
        web = Web(BENT_PLANE)
        stretches = web.faces(1)
        # Around the points 0, 1, 3: none of the ten triangles.
        row = [{(0, 1): 1, (1, 3): 1, (0, 3): -1}.get(face, 0) for face in stretches]
        double = [2 * number for number in row]
        self.assertEqual(own_border(BENT_PLANE, 1, row), [0] * 6)
        told = self.check(KINDS[0], BENT_PLANE, web, 1, row, 0)
        self.assertEqual((told[0], told[2]), ("barred", 2))
        self.assertEqual(self.check(KINDS[0], BENT_PLANE, web, 1, double, 0)[0], "found")
        for rests in RESTS[1:]:
            word = "barred" if rests % 2 == 0 else "found"
            self.assertEqual(self.check(KINDS[0], BENT_PLANE, web, 1, row, rests)[0], word)
            self.assertEqual(self.check(KINDS[0], BENT_PLANE, web, 1, double, rests)[0], "found")

    def test_a_cut_that_is_half_a_rise(self):
        web = Web(BENT_PLANE)
        row = [1] + [0] * 9
        told = self.check(KINDS[1], BENT_PLANE, web, 2, row, 0)
        self.assertEqual((told[0], told[2]), ("barred", 2))
        self.assertEqual(self.check(KINDS[1], BENT_PLANE, web, 2, [2] + [0] * 9, 0)[0], "found")

    def test_webs_at_the_brim(self):
        chance = random.Random(405)
        brims = [list(itertools.combinations(range(15), 2)), list(itertools.combinations(range(7), 4))]
        brims.append(list(itertools.combinations(range(8), 3)))
        for faces in brims:
            for kind in KINDS:
                for size in range(4):
                    for rests in (0, 60):
                        for row, made in self.rows(chance, kind, faces, size, rests)[::4]:
                            self.check(kind, faces, Web(faces), size, row, rests)

    def test_told_lists_are_new_ones(self):
        for chance, faces, web in drawn_webs(406, 15):
            for ask in (filled, raised):
                for size in range(4):
                    row = some_row(chance, len(of_size(faces, size)), 1)
                    right = copy.deepcopy(ask(web, size, row))
                    ask(web, size, row)[1].insert(0, 7)
                    self.assertEqual(ask(web, size, row), right)


class ShownTest(PapersCase):
    def test_bent_papers(self):
        answers = []
        for chance, faces, web in drawn_webs(411, 12):
            for kind in KINDS:
                for size in range(4):
                    for rests in (0, chance.choice(RESTS)):
                        row, made = chance.choice(self.rows(chance, kind, faces, size, rests))
                        answers.extend(self.check_bent(chance, kind, faces, web, size, row, rests))
        for name in ("shows_filled", "shows_raised"):
            for word in ("found", "barred"):
                self.assertGreater(answers.count((name, word, True)), 20)
                self.assertGreater(answers.count((name, word, False)), 100)

    def check_bent(self, chance, kind, faces, web, size, row, rests):
        ask, shows, table_of = kind[:3]
        table, wide = table_of(faces, size)
        answers = []
        for paper in bent_papers(chance, ask(web, size, row, rests=rests), rests):
            kept = copy.deepcopy((row, paper))
            with self.subTest(shows=shows.__name__, faces=faces, size=size, row=row, rests=rests, paper=paper):
                answer = shows(web, size, row, paper, rests=rests)
                self.assertIs(answer, holds(table, wide, row, paper, rests))
                self.assertEqual((row, paper), kept)
                answers.append((shows.__name__, paper[0], answer))
        return answers

    def test_a_paper_of_one_row_for_another_one(self):
        web = Web([(0, 1, 2)])
        told = filled(web, 1, [3, -3, 3])
        self.assertEqual(told, ("found", [3]))
        self.assertIs(shows_filled(web, 1, [3, -3, 3], told), True)
        self.assertIs(shows_filled(web, 1, [3, -3, 4], told), False)
        self.assertIs(shows_filled(web, 1, [3, 3, 3], told, rests=6), True)
        self.assertIs(shows_raised(web, 2, [3], ("found", [3, 0, 0])), True)
        self.assertIs(shows_raised(web, 2, [3], ("found", [0, 3, 0])), False)


class RefusedTest(unittest.TestCase):
    def test_the_order_of_refusals(self):
        papers = (("found", []), ("barred", [], 1))
        for faces in ([], [(0, 1, 2), (2, 3)], [(0, 1, 2, 3), (4,)]):
            web = Web(faces)
            for size, rests, row, word in refusals(lambda size: [1] * len(of_size(faces, size))):
                kept = list(row)
                with self.subTest(faces=faces, size=size, rests=rests, row=row):
                    for ask, shows in ((filled, shows_filled), (raised, shows_raised)):
                        with self.assertRaises(getattr(errors, word)):
                            ask(web, size, row, rests=rests)
                        for paper in papers:
                            with self.assertRaises(getattr(errors, word)):
                                shows(web, size, row, paper, rests=rests)
                    self.assertEqual(row, kept)

    def test_names_are_as_the_interface_tells(self):
        for ask, shows in ((filled, shows_filled), (raised, shows_raised)):
            self.assertEqual(list(inspect.signature(ask).parameters), ["web", "size", "row", "rests"])
            self.assertEqual(list(inspect.signature(shows).parameters), ["web", "size", "row", "told", "rests"])
            for function in (ask, shows):
                rests = inspect.signature(function).parameters["rests"]
                self.assertEqual((rests.kind, rests.default), (inspect.Parameter.KEYWORD_ONLY, 0))


if __name__ == "__main__":
    unittest.main()

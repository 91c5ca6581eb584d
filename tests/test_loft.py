"""cupweb/loft.py: points 2, 4, 9, 10, 12, 14 and 17 to 19, and the interface's section of that name."""

import copy
import inspect
import itertools
import random
import unittest

from cupweb import errors
from cupweb.cups import cup
from cupweb.groups import cuts, rings
from cupweb.loft import Loft
from cupweb.papers import filled, raised
from cupweb.web import Web
from drawn import (
    BAD_RESTS, BENT_PLANE, NO_FACES, ODD_KINDS, ODD_NAMES, OwnLoft, closed, loop, shut_row, some_deed, some_plain_deed,
    wall,
)

METHODS = {
    "begin": "name", "drop": "name", "put": "name face", "take": "name face", "finer": "name face",
    "lesser": "name face", "keep": "row name kind size numbers rests", "forget": "row", "bundle": "deeds",
    "do": "deed", "undo": "", "redo": "", "twin": "", "names": "", "rows": "", "shape": "name", "row": "row",
    "paper": "row", "numbers": "row", "product": "row other", "deeds": "", "undone": "",
}


def by_method(loft, deed):
    """Do a deed by the method of its word, with lists where lists are handed in."""
    word, *handed = deed
    if word == "keep":
        row, name, kind, size, rests, numbers = handed
        if rests == 0 and len(numbers) % 2:
            return loft.keep(row, name, kind, size, list(numbers))
        return loft.keep(row, name, kind, size, list(numbers), rests=rests)
    if word == "bundle":
        return loft.bundle(list(handed[0]))
    return getattr(loft, word)(*handed)


def refusal(function, *handed, **more):
    """The word of the refusal, or None."""
    try:
        function(*handed, **more)
    except errors.WebError as refused:
        assert type(refused).__name__ == refused.word
        return refused.word
    return None


def stands(loft):
    """All that can be seen of how a loft stands."""
    webs = [(name, loft.shape(name)) for name in loft.names()]
    return webs, [(row, loft.row(row)) for row in loft.rows()], loft.deeds(), loft.undone()


def own_stands(own, done, undone):
    webs = [(name, Web(faces)) for name, faces in own.webs.items()]
    rows = [(row, (*known[:4], list(known[4]))) for row, known in own.kept.items()]
    return webs, rows, list(done), list(undone)


class LoftCase(unittest.TestCase):
    def same(self, loft, own, done, undone=()):
        self.assertEqual(stands(loft), own_stands(own, done, undone))

    def walk(self, seed, many, do=Loft.do, drawer=some_deed):
        """Draw deeds, and look at the whole loft behind each; tells the loft and what was refused."""
        chance = random.Random(seed)
        loft, own, done, words = Loft(), OwnLoft(), [], []
        for _ in range(many):
            deed = drawer(chance, own)
            kept = copy.deepcopy(deed)
            with self.subTest(seed=seed, done=done, deed=deed):
                word = own.do(deed)
                self.assertEqual(refusal(do, loft, deed), word)
                self.assertEqual(deed, kept)
                if not word:
                    done.append(deed)
                words.append((deed[0], word))
                self.same(loft, own, done)
        return loft, own, words


class DeedsTest(LoftCase):
    def test_drawn_deeds(self):
        words = []
        for seed in range(30):
            words += self.walk(1000 + seed, 90)[2]
        for deed in ("begin", "drop", "put", "take", "finer", "lesser", "keep", "forget", "bundle"):
            self.assertGreater(words.count((deed, None)), 10, deed)
        for told in (
            ("begin", "BadName"), ("begin", "Taken"), ("drop", "NoWeb"), ("put", "NoWeb"), ("put", "BadFace"),
            ("put", "Had"), ("take", "NoWeb"), ("take", "NoFace"), ("finer", "NoWeb"), ("finer", "NoFace"),
            ("finer", "BadSize"), ("lesser", "NoWeb"), ("lesser", "NoFace"), ("lesser", "NotFree"), ("keep", "BadName"),
            ("keep", "Taken"), ("keep", "NoWeb"), ("keep", "BadKind"), ("keep", "BadSize"), ("keep", "BadRests"),
            ("keep", "BadRow"), ("keep", "NotShut"), ("forget", "NoRow"), ("bundle", "BadKind"),
        ):
            self.assertIn(told, words)

    def test_deeds_by_methods(self):
        for seed in range(12):
            self.walk(1100 + seed, 60, do=by_method)

    def test_methods_tell_none(self):
        loft = Loft()
        for told in (
            loft.begin("a"), loft.put("a", (0, 1, 2)), loft.keep("r", "a", "ring", 0, [1, 2, 3]), loft.take("a", (0, 1)),
            loft.finer("a", (0, 2)), loft.lesser("a", (0,)), loft.forget("r"), loft.bundle([]), loft.drop("a"),
            loft.do(("begin", "a")), loft.do(("bundle", ())),
        ):
            self.assertIsNone(told)

    def test_six_webs_and_the_seventh(self):
        loft = Loft()
        for name in "fabdce":
            self.assertIsNone(refusal(loft.begin, name))
        self.assertEqual(loft.names(), list("fabdce"))
        self.assertEqual(refusal(loft.begin, "g"), "Full")
        self.assertEqual(refusal(loft.begin, "a"), "Taken")
        self.assertEqual(refusal(loft.begin, "G"), "BadName")
        loft.drop("a")
        loft.begin("a")
        self.assertEqual(loft.names(), list("fbdcea"))
        self.assertEqual(refusal(loft.begin, "g"), "Full")

    def test_twelve_rows_and_the_thirteenth(self):
        loft = Loft()
        loft.begin("a")
        loft.put("a", (0, 1))
        names = ["row" + letter for letter in "lkjihgfedcba"]
        for name in names:
            self.assertIsNone(refusal(loft.keep, name, "a", "ring", 0, [1, 2]))
        self.assertEqual(loft.rows(), names)
        for handed, word in (
            (("m", "a", "ring", 0, [1, 2]), "Full"), (("m", "a", "cut", 0, [1, 2]), "NotShut"),
            (("m", "a", "cut", 0, [1]), "BadRow"), (("rowa", "a", "ring", 0, [1, 2]), "Taken"),
            (("m", "b", "ring", 0, [1, 2]), "NoWeb"), (("M", "a", "ring", 0, [1, 2]), "BadName"),
        ):
            self.assertEqual(refusal(loft.keep, *handed), word)
        loft.forget("rowk")
        loft.keep("m", "a", "ring", 0, [1, 2])
        self.assertEqual(loft.rows(), [name for name in names if name != "rowk"] + ["m"])

    def test_webs_and_rows_may_have_one_name(self):
        loft = Loft()
        loft.begin("a")
        loft.put("a", (0,))
        loft.keep("a", "a", "ring", 0, [5])
        self.assertEqual((loft.names(), loft.rows()), (["a"], ["a"]))
        loft.begin("b")
        loft.keep("b", "b", "ring", 3, [])
        loft.drop("a")
        self.assertEqual((loft.names(), loft.rows()), (["b"], ["b"]))

    def test_lists_handed_in_are_not_kept(self):
        loft = Loft()
        loft.begin("a")
        loft.put("a", (2, 0, 1))
        numbers = [5, -5, 5]
        loft.keep("r", "a", "ring", 1, numbers)
        deeds = [("begin", "b"), ("keep", "s", "a", "cut", 0, 7, (1, 8, -6))]
        loft.bundle(deeds)
        handed = [1, 1, 1]
        loft.do(("keep", "t", "a", "cut", 0, 0, handed))
        within = [0, 0, 0]
        loft.bundle([("keep", "u", "a", "cut", 0, 0, within)])
        for held in (numbers, deeds, handed, within):
            held.append(9)
            held[0] = 4
            held.clear()
        self.assertEqual(loft.row("r"), ("a", "ring", 1, 0, [5, -5, 5]))
        self.assertEqual(loft.row("s"), ("a", "cut", 0, 7, [1, 1, 1]))
        self.assertEqual(loft.row("t"), ("a", "cut", 0, 0, [1, 1, 1]))
        right = [
            ("begin", "a"), ("put", "a", (2, 0, 1)), ("keep", "r", "a", "ring", 1, 0, (5, -5, 5)),
            ("bundle", (("begin", "b"), ("keep", "s", "a", "cut", 0, 7, (1, 8, -6)))),
            ("keep", "t", "a", "cut", 0, 0, (1, 1, 1)), ("bundle", (("keep", "u", "a", "cut", 0, 0, (0, 0, 0)),)),
        ]
        self.assertEqual(loft.deeds(), right)

    def test_webs_at_their_bounds(self):
        brim = list(itertools.combinations(range(15), 2))
        loft = Loft()
        loft.begin("a")
        for face in brim:
            loft.put("a", face)
        self.assertEqual(len(loft.shape("a")), 120)
        before = stands(loft)
        for face in ((15,), (0, 1, 2), (3, 15)):
            self.assertEqual(refusal(loft.put, "a", face), "Full")
        self.assertEqual(refusal(loft.put, "a", (1, 0)), "Had")
        self.assertEqual(refusal(loft.put, "a", (1, 1)), "BadFace")
        self.assertEqual(refusal(loft.finer, "a", (1, 0)), "Full")
        self.assertEqual(refusal(loft.finer, "a", (3,)), "BadSize")
        self.assertEqual(refusal(loft.finer, "a", (1, 0, 2)), "NoFace")
        self.assertEqual(stands(loft), before)
        loft.begin("b")
        for point in range(16):
            loft.put("b", (point,))
        loft.put("b", (0, 1))
        self.assertEqual(refusal(loft.finer, "b", (0, 1)), "Full")


class RefusedTest(LoftCase):
    def loft(self, webs=1):
        loft = Loft()
        for name in "abcdef"[:webs]:
            loft.begin(name)
        loft.put("a", (0, 1, 2))
        loft.put("a", (2, 3))
        loft.keep("r", "a", "ring", 1, [1, -1, 1, 0])
        loft.keep("c", "a", "cut", 0, [2, 2, 2, 2], rests=5)
        return loft

    def refused(self, loft, word, *deed):
        before = stands(loft)
        with self.subTest(deed=deed):
            self.assertEqual(refusal(by_method, loft, deed), word)
            self.assertEqual(refusal(loft.do, deed), word)
            self.assertEqual(stands(loft), before)

    def test_names(self):
        for webs in (1, 6):
            loft = self.loft(webs)
            for name in ODD_NAMES:
                self.refused(loft, "BadName", "begin", name)
                self.refused(loft, "BadName", "keep", name, "a", "ring", 1, 0, (1, -1, 1, 0))
                self.refused(loft, "BadName", "keep", name, "no", "no", 9, 1, (1,))
                for word in ("drop", "put", "take", "finer", "lesser"):
                    handed = () if word == "drop" else ((0, 0),)
                    self.refused(loft, "NoWeb", word, name, *handed)
                    self.refused(loft, "NoWeb", word, "zz", *handed)
                self.refused(loft, "NoRow", "forget", name)
        self.refused(self.loft(6), "Taken", "begin", "f")
        self.refused(self.loft(6), "Full", "begin", "g")

    def test_names_at_their_bounds(self):
        loft = Loft()
        for name in ("a", "z", "abcdefgh", "zzzzzzzz"):
            self.assertIsNone(refusal(loft.begin, name))
            self.assertIsNone(refusal(loft.keep, name, name, "cut", 2, []))
        self.assertEqual(loft.rows(), ["a", "z", "abcdefgh", "zzzzzzzz"])

    def test_faces(self):
        loft = self.loft()
        for face in NO_FACES:
            self.refused(loft, "BadFace", "put", "a", face)
            for word in ("take", "finer", "lesser"):
                self.refused(loft, "NoFace", word, "a", face)
        for face in ((0, 1), (1, 0), (2, 1, 0), (3,)):
            self.refused(loft, "Had", "put", "a", face)
        for face in ((4,), (0, 3), (0, 1, 3), (0, 1, 2, 3)):
            for word in ("take", "finer", "lesser"):
                self.refused(loft, "NoFace", word, "a", face)
        self.refused(loft, "BadSize", "finer", "a", (3,))
        for face in ((0, 1, 2), (2, 3), (2,), (0,)):
            self.refused(loft, "NotFree", "lesser", "a", face)

    def test_kinds_sizes_rests_and_rows(self):
        loft = self.loft()
        bad_sizes = (-1, 4, 10 ** 29, -(10 ** 29))
        for kind in ODD_KINDS:
            for size, rests in itertools.product((1, *bad_sizes), (0, *BAD_RESTS)):
                self.refused(loft, "BadKind", "keep", "x", "a", kind, size, rests, (1, 2))
        for kind in ("ring", "cut"):
            for size, rests in itertools.product(bad_sizes, (0, 2, *BAD_RESTS)):
                self.refused(loft, "BadSize", "keep", "x", "a", kind, size, rests, (1, 2))
            for size, rests, numbers in itertools.product(range(4), BAD_RESTS, ((), (1, 2, 3, 4))):
                self.refused(loft, "BadRests", "keep", "x", "a", kind, size, rests, numbers)
            for size, rests, numbers in itertools.product(range(4), (0, 2, 60), ((1, 2), (1, 2, 3, 4, 5))):
                self.refused(loft, "BadRow", "keep", "x", "a", kind, size, rests, numbers)
        self.refused(loft, "NotShut", "keep", "x", "a", "ring", 1, 0, (1, 1, 1, 1))
        self.refused(loft, "NotShut", "keep", "x", "a", "cut", 0, 0, (1, 1, 1, 2))
        self.refused(loft, "NotShut", "keep", "x", "a", "cut", 0, 7, (1, 1, 1, 2))
        self.refused(loft, "Taken", "keep", "r", "no", "no", 9, 1, (1,))
        self.refused(loft, "NoWeb", "keep", "x", "no", "no", 9, 1, (1,))

    def test_asked_of_what_is_not_there(self):
        loft = self.loft()
        loft.begin("b")
        loft.keep("d", "b", "cut", 1, [], rests=5)
        loft.keep("e", "a", "cut", 0, [2, 2, 2, 2])
        before = stands(loft)
        for name in ("b ", "", "zz", "r", *ODD_NAMES):
            self.assertEqual(refusal(loft.shape, name), "NoWeb")
        for row in ("a", "", "zz", *ODD_NAMES):
            for ask in (loft.row, loft.paper, loft.numbers):
                self.assertEqual(refusal(ask, row), "NoRow")
            for other in ("r", "c", "a"):
                self.assertEqual(refusal(loft.product, row, other), "NoRow")
                self.assertEqual(refusal(loft.product, other, row), "NoRow")
        for one, other, word in (
            ("r", "r", "BadKind"), ("r", "c", "BadKind"), ("c", "r", "BadKind"), ("d", "r", "BadKind"),
            ("r", "d", "BadKind"), ("c", "d", "Unlike"), ("d", "c", "Unlike"), ("c", "e", "Unlike"),
            ("e", "c", "Unlike"), ("e", "d", "Unlike"), ("c", "c", None), ("d", "d", None),
        ):
            self.assertEqual(refusal(loft.product, one, other), word, (one, other))
        self.assertEqual(stands(loft), before)

    def test_words_that_are_no_deeds(self):
        loft = self.loft()
        before = stands(loft)
        for deed in (("undo",), ("names",), ("twin",), ("row", "r"), ("do", ("begin", "b"))):
            self.assertEqual(refusal(loft.do, deed), "BadKind")
            self.assertEqual(refusal(loft.bundle, [("begin", "b"), deed]), "BadKind")
            self.assertEqual(stands(loft), before)

    def test_two_webs_of_the_same_faces_are_two(self):
        loft = Loft()
        for name in "ab":
            loft.begin(name)
            loft.put(name, (0, 1))
            loft.keep(name, name, "cut", 0, [1, 1])
        self.assertEqual(refusal(loft.product, "a", "b"), "Unlike")


class RowsTest(LoftCase):
    def test_by_hand_put_and_take(self):
        loft = Loft()
        loft.begin("a")
        for face in loop(3):
            loft.put("a", face)
        loft.keep("ring", "a", "ring", 1, [5, -5, 5])
        loft.keep("cut", "a", "cut", 1, [1, 2, 4])
        loft.keep("flat", "a", "cut", 1, [1, 2, 1], rests=3)
        loft.put("a", (2, 3))
        self.assertEqual(loft.row("ring"), ("a", "ring", 1, 0, [5, -5, 5, 0]))
        self.assertEqual(loft.row("cut"), ("a", "cut", 1, 0, [1, 2, 4, 0]))
        # 1 - 2 + 4 is 3: nought by rests of 3 alone, and the first one is whole.
        loft.put("a", (0, 1, 2))
        self.assertEqual(loft.rows(), ["ring", "flat"])
        loft.undo()
        loft.take("a", (0, 1))
        self.assertEqual(loft.rows(), ["cut", "flat"])
        self.assertEqual(loft.row("cut"), ("a", "cut", 1, 0, [2, 4, 0]))
        loft.undo()
        loft.take("a", (3,))
        self.assertEqual(loft.row("ring"), ("a", "ring", 1, 0, [5, -5, 5]))

    def test_by_hand_finer_and_lesser(self):
        loft = Loft()
        loft.begin("a")
        for face in loop(3):
            loft.put("a", face)
        loft.keep("ring", "a", "ring", 1, [1, -1, 1])
        loft.keep("cut", "a", "cut", 1, [10, 20, 40], rests=60)
        loft.finer("a", (1, 0))
        self.assertEqual(loft.shape("a").faces(1), [(0, 2), (0, 3), (1, 2), (1, 3)])
        self.assertEqual(loft.row("ring")[4], [-1, 1, 1, -1])
        # The new point 3 is led home to 0: (0, 3) to nothing, (1, 3) to (1, 0), turned.
        self.assertEqual(loft.row("cut")[4], [20, 0, 40, 50])
        loft.put("a", (0, 4))
        loft.keep("end", "a", "ring", 0, [0, 0, 0, 0, 7])
        loft.lesser("a", (4,))
        self.assertEqual(loft.row("end")[4], [7, 0, 0, 0])

    def test_rows_are_told_as_rests(self):
        loft = Loft()
        loft.begin("a")
        loft.put("a", (0, 1))
        loft.keep("r", "a", "ring", 0, [-1, 70], rests=60)
        self.assertEqual(loft.row("r"), ("a", "ring", 0, 60, [59, 10]))
        self.assertEqual(loft.deeds()[-1], ("keep", "r", "a", "ring", 0, 60, (-1, 70)))
        # By rests nought at the face that goes: the row stays.
        loft.keep("s", "a", "ring", 0, [120, 70], rests=60)
        loft.take("a", (0,))
        self.assertEqual(loft.rows(), ["s"])
        self.assertEqual(loft.row("s"), ("a", "ring", 0, 60, [10]))

    def test_a_dropped_web_takes_its_rows_along(self):
        loft = Loft()
        for name in "ab":
            loft.begin(name)
            loft.put(name, (0,))
        for row, name in (("p", "a"), ("q", "b"), ("s", "a"), ("t", "b")):
            loft.keep(row, name, "ring", 0, [1])
        loft.drop("a")
        self.assertEqual((loft.names(), loft.rows()), (["b"], ["q", "t"]))
        loft.undo()
        self.assertEqual((loft.names(), loft.rows()), (["a", "b"], ["p", "q", "s", "t"]))

    def test_rows_of_webs_that_change_much(self):
        def drawer(chance, own):
            """Few webs and many rows, and faces that come and go."""
            if not own.webs:
                return "begin", "a"
            deed = ("drop", "a")
            while deed[0] in ("begin", "drop", "forget"):
                deed = some_plain_deed(chance, own)
            return deed

        kinds = []
        for seed in range(12):
            loft, own, words = self.walk(1200 + seed, 60, drawer=drawer)
            kinds += [loft.row(row)[1] for row in loft.rows()]
        self.assertGreater(kinds.count("ring"), 5)
        self.assertGreater(kinds.count("cut"), 5)


class BackTest(LoftCase):
    def test_takings_back_and_doings_again_among_deeds(self):
        counts = {"undo": 0, "redo": 0, "NothingLeft": 0, "refused": 0, "let go": 0}
        for seed in range(25):
            self.check_walk(random.Random(1300 + seed), counts)
        self.assertGreater(min(counts.values()), 10, counts)

    def check_walk(self, chance, counts):
        loft, owns, done, undone = Loft(), [OwnLoft()], [], []
        ahead = []
        for _ in range(70):
            word = chance.choice(("deed", "deed", "undo", "undo", "redo", "redo", "refused"))
            if word == "undo":
                if not done:
                    counts["NothingLeft"] += 1
                    self.assertEqual(refusal(loft.undo), "NothingLeft")
                else:
                    counts["undo"] += 1
                    undone.insert(0, done.pop())
                    ahead.append(owns.pop())
                    self.assertEqual(loft.undo(), undone[0])
            elif word == "redo":
                if not undone:
                    counts["NothingLeft"] += 1
                    self.assertEqual(refusal(loft.redo), "NothingLeft")
                else:
                    counts["redo"] += 1
                    done.append(undone.pop(0))
                    owns.append(ahead.pop())
                    self.assertEqual(loft.redo(), done[-1])
            else:
                own = copy.deepcopy(owns[-1])
                deed = some_deed(chance, own) if word == "deed" else ("drop", "nowhere")
                told = own.do(deed)
                self.assertEqual(refusal(loft.do, deed), told)
                if told:
                    counts["refused"] += bool(undone)
                else:
                    counts["let go"] += bool(undone)
                    done.append(deed)
                    owns.append(own)
                    undone, ahead = [], []
            self.same(loft, owns[-1], done, undone)

    def test_as_if_the_deed_had_never_been_done(self):
        for seed in range(8):
            loft, own, words = self.walk(1400 + seed, 50)
            deeds = loft.deeds()
            while deeds:
                self.assertEqual(loft.undo(), deeds.pop())
                if len(deeds) % 5 == 0:
                    again = Loft()
                    for deed in deeds:
                        again.do(deed)
                    self.assertEqual(stands(again)[:3], stands(loft)[:3])
            self.assertEqual(refusal(loft.undo), "NothingLeft")
            self.assertEqual((loft.names(), loft.rows(), loft.deeds()), ([], [], []))

    def test_names_come_back_to_their_places(self):
        loft = Loft()
        for name in "abc":
            loft.begin(name)
            loft.put(name, (0,))
            loft.keep("row" + name, name, "ring", 0, [1])
        loft.drop("a")
        loft.begin("a")
        self.assertEqual(loft.names(), ["b", "c", "a"])
        loft.undo()
        loft.undo()
        self.assertEqual((loft.names(), loft.rows()), (["a", "b", "c"], ["rowa", "rowb", "rowc"]))
        loft.forget("rowb")
        loft.keep("rowb", "b", "ring", 0, [2])
        self.assertEqual(loft.rows(), ["rowa", "rowc", "rowb"])
        self.assertEqual(loft.undo()[0], "keep")
        self.assertEqual(loft.undo(), ("forget", "rowb"))
        self.assertEqual(loft.rows(), ["rowa", "rowb", "rowc"])
        self.assertEqual([deed[0] for deed in loft.undone()], ["forget", "keep"])
        loft.redo()
        loft.redo()
        self.assertEqual(loft.rows(), ["rowa", "rowc", "rowb"])

    def test_a_refused_deed_lets_go_of_nothing(self):
        loft = Loft()
        loft.begin("a")
        loft.begin("b")
        loft.undo()
        for deed in (("begin", "a"), ("drop", "b"), ("bundle", (("begin", "c"), ("begin", "c"))), ("begin", "B")):
            self.assertIsNotNone(refusal(loft.do, deed))
            self.assertEqual(loft.undone(), [("begin", "b")])
        self.assertEqual(loft.redo(), ("begin", "b"))
        self.assertEqual(refusal(loft.redo), "NothingLeft")
        loft.undo()
        loft.bundle([])
        self.assertEqual((loft.undone(), loft.deeds()), ([], [("begin", "a"), ("bundle", ())]))
        self.assertEqual(refusal(loft.redo), "NothingLeft")

    def test_many_deeds(self):
        loft = Loft()
        loft.begin("a")
        for at in range(600):
            loft.do(("put", "a", (at % 16,)) if at % 32 < 16 else ("take", "a", (at % 16,)))
        self.assertEqual(len(loft.deeds()), 601)
        for at in range(601):
            loft.undo()
        self.assertEqual((loft.names(), len(loft.undone())), ([], 601))
        for at in range(601):
            loft.redo()
        self.assertEqual(loft.shape("a"), Web([(point,) for point in range(8, 16)]))

    def test_twins(self):
        for seed in range(8):
            chance = random.Random(1500 + seed)
            loft, own, words = self.walk(1500 + seed, 40)
            for _ in range(chance.randint(0, 6)):
                loft.undo()
            before = stands(loft)
            twin = loft.twin()
            self.assertIs(type(twin), Loft)
            self.assertEqual(stands(twin), before)
            for one, other in ((loft, twin), (twin, loft)):
                kept = stands(other)
                if one.undone():
                    one.redo()
                one.bundle([])
                for name in one.names():
                    one.drop(name)
                one.begin("new")
                self.assertEqual(stands(other), kept)
                for _ in range(len(one.deeds())):
                    one.undo()
                self.assertEqual(stands(other), kept)

    def test_a_twin_takes_back_and_does_again(self):
        loft = Loft()
        loft.begin("a")
        loft.begin("b")
        loft.undo()
        twin = loft.twin()
        self.assertEqual(twin.redo(), ("begin", "b"))
        self.assertEqual((twin.names(), loft.names()), (["a", "b"], ["a"]))
        self.assertEqual((twin.undone(), loft.undone()), ([], [("begin", "b")]))
        self.assertEqual((loft.undo(), loft.names(), twin.names()), (("begin", "a"), [], ["a", "b"]))
        self.assertEqual((twin.undo(), twin.undo(), twin.names()), (("begin", "b"), ("begin", "a"), []))

    def test_nothing_left(self):
        loft = Loft()
        for ask in (loft.undo, loft.redo, loft.twin().undo, loft.twin().redo):
            self.assertEqual(refusal(ask), "NothingLeft")


class BundlesTest(LoftCase):
    def good(self):
        """Twelve deeds, all good one behind the other."""
        return [
            ("begin", "a"), ("put", "a", (0, 1)), ("put", "a", (1, 2)), ("put", "a", (2, 0)),
            ("keep", "r", "a", "ring", 1, 0, (1, -1, 1)), ("keep", "c", "a", "cut", 1, 6, (1, 2, 3)),
            ("finer", "a", (0, 1)), ("put", "a", (5, 6)), ("lesser", "a", (6,)), ("take", "a", (5,)),
            ("forget", "c"), ("begin", "b"),
        ]

    def test_none_to_twelve_deeds(self):
        for many in range(13):
            deeds = self.good()[:many]
            loft, other = Loft(), Loft()
            loft.bundle(deeds)
            for deed in deeds:
                other.do(deed)
            self.assertEqual(stands(loft)[:2], stands(other)[:2])
            self.assertEqual(loft.deeds(), [("bundle", tuple(deeds))])
            self.assertEqual(loft.undo(), ("bundle", tuple(deeds)))
            self.assertEqual((loft.names(), loft.rows(), loft.deeds()), ([], [], []))
            self.assertEqual(loft.redo(), ("bundle", tuple(deeds)))
            self.assertEqual(stands(loft)[:2], stands(other)[:2])

    def test_one_refused_at_any_place(self):
        for bad, word in (
            (("begin", "x1"), "BadName"), (("drop", "zz"), "NoWeb"), (("forget", "zz"), "NoRow"),
            (("keep", "zz", "zz", "ring", 1, 0, ()), "NoWeb"), (("bundle", ()), "BadKind"),
            (("bundle", (("begin", "x"),)), "BadKind"), (("put", "zz", (0,)), "NoWeb"),
        ):
            for many in (0, 1, 5, 12):
                for at in range(many + 1):
                    deeds = self.good()[:many]
                    deeds.insert(at, bad)
                    kept = list(deeds)
                    loft = Loft()
                    loft.begin("q")
                    loft.begin("p")
                    loft.undo()
                    before = stands(loft)
                    for asked in (lambda: loft.bundle(deeds), lambda: loft.do(("bundle", tuple(deeds)))):
                        self.assertEqual(refusal(asked), word)
                        self.assertEqual(stands(loft), before)
                        self.assertEqual(deeds, kept)

    def test_a_bundle_among_them_goes_ahead_of_all(self):
        loft = Loft()
        self.assertEqual(refusal(loft.bundle, [("drop", "zz"), ("bundle", ())]), "BadKind")
        self.assertEqual(refusal(loft.bundle, [("bundle", ()), ("drop", "zz")]), "BadKind")
        self.assertEqual(refusal(loft.bundle, [("begin", "a"), ("begin", "a")]), "Taken")

    def test_deeds_that_need_one_another(self):
        loft = Loft()
        for name in "abcdef":
            loft.begin(name)
        loft.bundle([("drop", "a"), ("begin", "g")])
        self.assertEqual(loft.names(), list("bcdefg"))
        self.assertEqual(refusal(loft.bundle, [("begin", "a"), ("drop", "b")]), "Full")
        loft.undo()
        self.assertEqual(loft.names(), list("abcdef"))


class AskedTest(LoftCase):
    def right(self, loft, row):
        """(paper, numbers) of a kept row by the makers of the web as it is."""
        name, kind, size, rests, numbers = loft.row(row)
        web = loft.shape(name)
        ask, group = (filled, rings) if kind == "ring" else (raised, cuts)
        group = group(web, size, rests=rests)
        return ask(web, size, numbers, rests=rests), group.coordinates(numbers)

    def product(self, loft, row, other):
        name, kind, size, rests, numbers = loft.row(row)
        second, sort, high, more_rests, more = loft.row(other)
        if "ring" in (kind, sort):
            return "BadKind"
        if (name, rests) != (second, more_rests):
            return "Unlike"
        if size + high > 3:
            return []
        web = loft.shape(name)
        return cuts(web, size + high, rests=rests).coordinates(cup(web, size, numbers, high, more, rests=rests))

    def check(self, loft):
        before = stands(loft)
        words = []
        for row in loft.rows():
            paper, numbers = self.right(loft, row)
            for _ in range(2):
                told = loft.paper(row), loft.numbers(row)
                self.assertEqual(told, (paper, numbers))
                told[0][1].append(3)
                told[1].append(4)
            for other in loft.rows():
                right = self.product(loft, row, other)
                if isinstance(right, str):
                    self.assertEqual(refusal(loft.product, row, other), right)
                else:
                    told = loft.product(row, other)
                    self.assertEqual(told, right)
                    told.append(5)
                    self.assertEqual(loft.product(row, other), right)
                words.append(right if isinstance(right, str) else "told")
        self.assertEqual(stands(loft), before)
        return words

    def test_behind_deeds_and_takings_back(self):
        words = []
        for seed in range(12):
            chance = random.Random(1600 + seed)
            loft, own = Loft(), OwnLoft()
            for faces, name in ((chance.choice((BENT_PLANE, loop(3), wall(4))), "a"), (loop(4), "b")):
                deeds = [("begin", name)] + [("put", name, face) for face in faces]
                loft.bundle(deeds)
                own.do(("bundle", tuple(deeds)))
            for at in range(8):
                name, kind, size, rests = chance.choice("aab"), chance.choice(("ring", "cut", "cut")), at % 3, at % 2 * 2
                numbers = shut_row(chance, own.webs[name], kind, size, rests)
                deed = ("keep", "row" + "abcdefgh"[at], name, kind, size, rests, tuple(numbers))
                loft.do(deed)
                own.do(deed)
            for _ in range(6):
                words += self.check(loft)
                deed = some_deed(chance, own)
                if own.do(deed) is None:
                    loft.do(deed)
                if chance.random() < 0.3:
                    loft.undo()
                    words += self.check(loft)
                    loft.redo()
        for word in ("BadKind", "Unlike", "told"):
            self.assertGreater(words.count(word), 20)

    def test_by_hand(self):
        loft = Loft()
        loft.begin("a")
        for face in BENT_PLANE:
            loft.put("a", face)
        web = loft.shape("a")
        loft.keep("x", "a", "cut", 1, cuts(web, 1, rests=2).makers[0], rests=2)
        loft.keep("r", "a", "ring", 1, rings(web, 1).makers[0])
        loft.keep("top", "a", "cut", 2, [1] + [0] * 9)
        self.assertEqual((loft.numbers("x"), loft.numbers("r"), loft.numbers("top")), ([1], [1], [1]))
        self.assertEqual(loft.product("x", "x"), [1])
        self.assertEqual(loft.product("top", "top"), [])
        self.assertEqual([loft.paper("r")[0], loft.paper("r")[2]], ["barred", 2])
        self.assertEqual([loft.paper("top")[0], loft.paper("top")[2]], ["barred", 2])
        for face in ((0, 1), (0, 1, 2)):
            loft.finer("a", face) if loft.shape("a").has(face) else None
            self.assertEqual((loft.numbers("x"), loft.numbers("r"), loft.numbers("top")), ([1], [1], [1]))
            self.assertEqual(loft.product("x", "x"), [1])

    def test_products_at_the_greatest_size(self):
        loft = Loft()
        loft.bundle([("begin", "a")] + [("put", "a", face) for face in wall(5)])
        loft.keep("one", "a", "cut", 0, [2] * 5)
        loft.keep("top", "a", "cut", 3, [1, 0, 0, 0, 3])
        loft.keep("low", "a", "cut", 1, [0] * 10)
        top = loft.numbers("top")
        self.assertEqual(len(top), 1)
        self.assertIn(top[0], (4, -4))
        for row, other in (("one", "top"), ("top", "one")):
            self.assertEqual(loft.product(row, other), [2 * top[0]])
        for row, other in (("low", "top"), ("top", "low"), ("top", "top")):
            self.assertEqual(loft.product(row, other), [])

    def test_told_lists_are_new_ones(self):
        loft = Loft()
        loft.bundle([("begin", "a"), ("put", "a", (0, 1)), ("keep", "r", "a", "ring", 0, 0, (1, -1))])
        loft.begin("b")
        loft.undo()
        before = stands(loft)
        for told in (loft.names(), loft.rows(), loft.row("r")[4], loft.deeds(), loft.undone(), loft.numbers("r")):
            told.append(7)
            told.reverse()
            self.assertEqual(stands(loft), before)
            told.clear()
            self.assertEqual(stands(loft), before)
        self.assertEqual(loft.numbers("r"), [0])
        web = loft.shape("a")
        web.faces(0).clear()
        web.tops().append((9,))
        self.assertEqual(stands(loft), before)

    def test_deeds_are_tuples_throughout(self):
        def is_tuples(thing):
            return not isinstance(thing, (list, dict, set)) and (
                not isinstance(thing, tuple) or all(is_tuples(part) for part in thing)
            )

        for seed in range(4):
            chance = random.Random(1700 + seed)
            loft, own = Loft(), OwnLoft()
            for _ in range(50):
                deed = some_deed(chance, own)
                if own.do(deed) is None:
                    by_method(loft, deed)
            self.assertTrue(all(isinstance(deed, tuple) and is_tuples(deed) for deed in loft.deeds()))
            for _ in range(10):
                self.assertTrue(is_tuples(loft.undo()))
            self.assertTrue(all(is_tuples(deed) for deed in loft.undone()))


class NamesTest(unittest.TestCase):
    def test_names_are_as_the_interface_tells(self):
        self.assertEqual(list(inspect.signature(Loft).parameters), [])
        for name, wished in METHODS.items():
            parameters = inspect.signature(vars(Loft)[name]).parameters
            self.assertEqual(list(parameters)[1:], wished.split(), name)
        rests = inspect.signature(Loft.keep).parameters["rests"]
        self.assertEqual((rests.kind, rests.default), (inspect.Parameter.KEYWORD_ONLY, 0))

    def test_a_new_loft(self):
        loft = Loft()
        self.assertEqual((loft.names(), loft.rows(), loft.deeds(), loft.undone()), ([], [], [], []))
        self.assertEqual(closed([]), [])


if __name__ == "__main__":
    unittest.main()

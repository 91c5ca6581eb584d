"""cupweb/pages.py: points 2 and 20, and the interface's section of that name."""

import copy
import inspect
import random
import re
import unittest

from cupweb import errors
from cupweb.loft import Loft
from cupweb.pages import deed_of, deed_text, loft_of, page
from drawn import OwnLoft, some_deed

# Point 20 by the test's own reading.
NAME = "[a-z]{1,8}"
NUMBER = "(?:0|[1-9][0-9]{0,29})"
SIGNED = "(?:0|-?[1-9][0-9]{0,29})"
FACE = NUMBER + r"(?:\." + NUMBER + ")*"
NUMBERS = "(?:-|" + SIGNED + "(?:," + SIGNED + ")*)"
PLAIN = (
    f"(?:(?:begin|drop|forget) {NAME}|(?:put|take|finer|lesser) {NAME} {FACE}"
    f"|keep {NAME} {NAME} {NAME} {NUMBER} {NUMBER} {NUMBERS})"
)
DEED = re.compile(f"(?:{PLAIN}|all:(?: {PLAIN}(?:; {PLAIN})*)?)")

BY_HAND = (
    (("begin", "a"), "begin a"),
    (("drop", "abcdefgh"), "drop abcdefgh"),
    (("forget", "z"), "forget z"),
    (("put", "web", (2, 0, 1)), "put web 2.0.1"),
    (("take", "web", (15,)), "take web 15"),
    (("finer", "web", (3, 3)), "finer web 3.3"),
    (("lesser", "web", (0, 1, 2, 3, 4, 99)), "lesser web 0.1.2.3.4.99"),
    (("keep", "r", "a", "ring", 1, 0, (1, -1, 1)), "keep r a ring 1 0 1,-1,1"),
    (("keep", "r", "a", "cut", 3, 60, ()), "keep r a cut 3 60 -"),
    (("keep", "r", "a", "odd", 17, 1, (0,)), "keep r a odd 17 1 0"),
    (("keep", "r", "a", "cut", 10 ** 29, 0, (-(10 ** 29),)), "keep r a cut 1" + "0" * 29 + " 0 -1" + "0" * 29),
    (("bundle", ()), "all:"),
    (("bundle", (("begin", "a"),)), "all: begin a"),
    (("bundle", (("begin", "a"), ("put", "a", (0, 1)), ("drop", "a"))), "all: begin a; put a 0.1; drop a"),
)

NOT_WRITTEN_SO = (
    "", " ", "begin", "begin ", " begin a", "begin a ", "begin  a", "begin A", "begin a1", "begin abcdefghi", "begin a b",
    "Begin a", "begin a\n", "\nbegin a", "begin\ta", "begin a;", "all", "all: ", "all:begin a", "all:  begin a",
    "all: begin a;", "all: begin a;drop a", "all: begin a;  drop a", "all: begin a ; drop a", "all: begin a; ",
    "all: all:", "all: begin a; all:", "all:;", "all: ;", "ALL:", "all:\n", " all:", "bundle", "bundle begin a",
    "put a", "put a ", "put a -", "put a 0.", "put a .0", "put a 0..1", "put a 00", "put a 01", "put a 0.01", "put a -1",
    "put a 0,1", "put a 0 1", "put a 1" + "0" * 30, "put a x", "put 0.1 a", "put a +1", "put a 0.1 ", "forget",
    "forget r s", "drop a b", "keep r a ring 1 0", "keep r a ring 1 0 ", "keep r a ring 1 0 1,", "keep r a ring 1 0 ,1",
    "keep r a ring 1 0 1,,1", "keep r a ring 1 0 -0", "keep r a ring 1 0 --1", "keep r a ring 1 0 1,-",
    "keep r a ring 1 0 -,1", "keep r a ring 1 0 01", "keep r a ring 1 0 -01", "keep r a ring 1 0 1.1",
    "keep r a ring -1 0 1", "keep r a ring 1 -1 1", "keep r a ring 01 0 1", "keep r a ring 1 00 1", "keep r a ring x 0 1",
    "keep r a Ring 1 0 1", "keep r a  1 0 1", "keep r a ringringr 1 0 1", "keep r a ring 1 0 1 1", "keep r a ring 1 0 1\n",
    "keep r a ring 1 0 1" + "0" * 30, "keep r a ring 1 0 -1" + "0" * 30, "keep r a ring 1 0 +1", "keep  a ring 1 0 1",
    "undo", "redo", "names", "rows", "faces a", "done", "none", "no line", "do begin a", "twin", "keep r a ring 1 0 - ",
)


def any_number(chance, below=False):
    number = chance.choice((0, 1, 9, 10, 15, 16, 10 ** 29, 10 ** 30 - 1, chance.randrange(10 ** chance.randint(1, 30))))
    return -number if below and chance.random() < 0.5 else number


def any_name(chance):
    return "".join(chance.choice("abcdefghijklmnopqrstuvwxyz") for _ in range(chance.choice((1, 2, 7, 8))))


def any_plain_deed(chance):
    """A deed of whatever numbers and names can be written."""
    word = chance.choice(("begin", "drop", "forget", "put", "take", "finer", "lesser", "keep", "keep"))
    if word in ("begin", "drop", "forget"):
        return word, any_name(chance)
    if word != "keep":
        return word, any_name(chance), tuple(any_number(chance) for _ in range(chance.randint(1, 6)))
    numbers = tuple(any_number(chance, True) for _ in range(chance.choice((0, 0, 1, 2, 5, 30))))
    kind = chance.choice(("ring", "cut", any_name(chance)))
    return word, any_name(chance), any_name(chance), kind, any_number(chance), any_number(chance), numbers


def any_deed(chance):
    if chance.random() < 0.8:
        return any_plain_deed(chance)
    return "bundle", tuple(any_plain_deed(chance) for _ in range(chance.choice((0, 1, 2, 5))))


def own_plain_text(deed):
    word, *parts = deed
    told = [word]
    for part in parts:
        if isinstance(part, tuple):
            sign = "," if word == "keep" else "."
            told.append(sign.join(str(number) for number in part) or "-")
        else:
            told.append(str(part))
    return " ".join(told)


def own_text(deed):
    if deed[0] != "bundle":
        return own_plain_text(deed)
    return "all:" + ";".join(" " + own_plain_text(part) for part in deed[1])


def bent(chance, text):
    """The text bent by a sign or a word, mostly."""
    signs = " .,;:-0123456789abcdefghklnoprtuwxz\nA+_"
    for _ in range(chance.choice((0, 1, 1, 1, 2))):
        at = chance.randint(0, len(text))
        way = chance.randrange(5)
        if way == 0:
            text = text[:at] + chance.choice(signs) + text[at:]
        elif way == 1:
            text = text[:at] + text[at + 1:]
        elif way == 2:
            text = text[:at] + chance.choice(signs) + text[at + 1:]
        elif way == 3:
            words = text.split(" ")
            words.insert(chance.randint(0, len(words)), chance.choice(words + ["0", "-", "all:", "a"]))
            text = " ".join(words)
        else:
            words = text.split(" ")
            del words[chance.randrange(len(words))]
            text = " ".join(words)
    return text


class DeedsTest(unittest.TestCase):
    def refused(self, text):
        with self.subTest(text=text), self.assertRaises(errors.BadText) as held:
            deed_of(text)
        self.assertEqual((held.exception.at, held.exception.word), (0, "BadText"))

    def test_by_hand(self):
        for deed, text in BY_HAND:
            self.assertEqual(deed_text(deed), text)
            self.assertEqual(deed_of(text), deed)
            self.assertIsNotNone(DEED.fullmatch(text))

    def test_texts_that_are_not_written_so(self):
        for text in NOT_WRITTEN_SO:
            self.assertIsNone(DEED.fullmatch(text), text)
            self.refused(text)

    def test_there_and_back(self):
        chance = random.Random(1801)
        for _ in range(600):
            deed = any_deed(chance)
            kept = copy.deepcopy(deed)
            text = deed_text(deed)
            self.assertEqual(text, own_text(deed))
            self.assertEqual(deed_of(text), deed)
            self.assertEqual(repr(deed_of(text)), repr(deed))
            self.assertEqual(deed, kept)

    def test_bent_texts(self):
        chance = random.Random(1802)
        answers = []
        for _ in range(6000):
            text = bent(chance, own_text(any_deed(chance)))
            right = DEED.fullmatch(text) is not None
            answers.append(right)
            if right:
                with self.subTest(text=text):
                    deed = deed_of(text)
                    self.assertEqual(deed_text(deed), text)
                    self.assertEqual(own_text(deed), text)
            else:
                self.refused(text)
        self.assertGreater(answers.count(True), 1000)
        self.assertGreater(answers.count(False), 1000)

    def test_words_of_many_kinds(self):
        chance = random.Random(1803)
        words = ["begin", "drop", "put", "keep", "all:", "a", "ring", "0", "1", "-1", "-", "0.1", "1,2", ";", "", "x;", "A"]
        for _ in range(3000):
            text = " ".join(chance.choice(words) for _ in range(chance.randint(1, 8)))
            if DEED.fullmatch(text):
                self.assertEqual(own_text(deed_of(text)), text)
            else:
                self.refused(text)

    def test_figures_at_their_bounds(self):
        for figures in (1, 29, 30):
            for digit in "19":
                number = int(digit * figures)
                self.assertEqual(deed_of(f"put a {number}"), ("put", "a", (number,)))
                self.assertEqual(deed_of(f"keep r a cut {number} {number} -{number},{number}")[4:], (
                    number, number, (-number, number)
                ))
        for text in ("put a " + "9" * 31, "keep r a cut 0 0 -" + "9" * 31, "keep r a cut 0 " + "9" * 31 + " 0"):
            self.refused(text)

    def test_long_texts(self):
        deed = ("bundle", tuple(("begin", "abcdefgh") for _ in range(400)))
        self.assertEqual(deed_of(deed_text(deed)), deed)
        deed = ("keep", "r", "a", "cut", 1, 0, tuple(range(-200, 200)))
        self.assertEqual(deed_of(deed_text(deed)), deed)


class PagesTest(unittest.TestCase):
    def drawn_loft(self, seed, many=40):
        chance = random.Random(seed)
        loft, own = Loft(), OwnLoft()
        for _ in range(many):
            deed = some_deed(chance, own)
            if own.do(deed) is None:
                loft.do(deed)
        return chance, loft

    def same(self, loft, other):
        self.assertEqual((loft.names(), loft.rows(), loft.deeds()), (other.names(), other.rows(), other.deeds()))
        self.assertEqual([loft.shape(name) for name in loft.names()], [other.shape(name) for name in loft.names()])
        self.assertEqual([loft.row(row) for row in loft.rows()], [other.row(row) for row in loft.rows()])

    def refused(self, text, at):
        with self.subTest(text=text), self.assertRaises(errors.BadText) as held:
            loft_of(text)
        self.assertEqual((held.exception.at, held.exception.word), (at, "BadText"))

    def test_there_and_back(self):
        for seed in range(20):
            chance, loft = self.drawn_loft(1900 + seed)
            for _ in range(min(chance.randint(0, 3), len(loft.deeds()))):
                loft.undo()
            undone = loft.undone()
            text = page(loft)
            self.assertEqual(text, "".join(own_text(deed) + "\n" for deed in loft.deeds()))
            again = loft_of(text)
            self.assertIs(type(again), Loft)
            self.same(again, loft)
            self.assertEqual((again.undone(), loft.undone()), ([], undone))
            self.assertEqual(page(again), text)
            while again.deeds():
                again.undo()
            self.assertEqual(page(again), "")

    def test_by_hand(self):
        loft = loft_of("begin a\nall: put a 0.1; put a 1.2\nkeep r a ring 0 7 -1,0,8\n")
        self.assertEqual((loft.names(), loft.row("r")), (["a"], ("a", "ring", 0, 7, [6, 0, 1])))
        self.assertEqual(page(loft), "begin a\nall: put a 0.1; put a 1.2\nkeep r a ring 0 7 -1,0,8\n")
        self.assertEqual(loft_of("").deeds(), [])
        self.assertEqual(page(Loft()), "")
        self.assertEqual(loft_of("all:\n").deeds(), [("bundle", ())])

    def test_rows_that_are_refused(self):
        good = ["begin a", "put a 0.1", "keep r a ring 0 0 1,2", "finer a 0.1", "forget r", "drop a"]
        for at in range(len(good) + 1):
            for row in ("begin a1", "", " ", "drop zz", "put a 0.0", "undo", "all: all:", "all: begin b; begin b", "names"):
                rows = good[:at] + [row] + good[at:]
                self.refused("\n".join(rows) + "\n", at)
                # A later row that is no deed either, and a last row without a line feed, come behind it.
                self.refused("\n".join(rows + ["x"]) + "\n", at)
                self.refused("\n".join(rows + ["begin b"]), at)

    def test_a_last_row_without_a_line_feed(self):
        good = ["begin a", "put a 0.1", "drop a"]
        for many in range(4):
            ahead = "".join(row + "\n" for row in good[:many])
            for row in ("begin b", "x", "begin a1", " ", "all:", "drop zz"):
                self.refused(ahead + row, many)
        self.refused("begin a", 0)
        self.refused("begin a\nbegin a\nx", 1)
        self.refused("\n", 0)
        self.refused("begin a\n\n", 1)
        self.refused("\nbegin a\n", 0)

    def test_bent_pages(self):
        answers = []
        for seed in range(60):
            chance, loft = self.drawn_loft(2000 + seed, 14)
            rows = page(loft).split("\n")[:-1]
            for _ in range(10):
                bent_rows = self.bent_rows(chance, rows)
                text = "\n".join(bent_rows) + chance.choice(("\n", "\n", "\n", "", "\n\n", "\nx"))
                at = self.first_bad(text)
                answers.append(at is None)
                if at is None:
                    self.assertEqual(page(loft_of(text)), text)
                else:
                    self.refused(text, at)
        self.assertGreater(answers.count(True), 20)
        self.assertGreater(answers.count(False), 100)

    def bent_rows(self, chance, rows):
        rows = list(rows)
        for _ in range(chance.choice((0, 1, 1, 2)) if rows else 0):
            at, other = (chance.randrange(len(rows)) for _ in range(2))
            way = chance.randrange(5)
            if way == 0:
                rows[at] = bent(chance, rows[at]).replace("\n", "")
            elif way == 1:
                rows.insert(at, rows[other])
            elif way == 2:
                rows[at], rows[other] = rows[other], rows[at]
            elif way == 3 and len(rows) > 1:
                del rows[at]
            else:
                rows.insert(at, chance.choice(("drop zz", "begin a", "", "all:", "forget zz")))
        return rows

    def first_bad(self, text):
        """The number of the first row that is no deed or is refused, by the test's own loft, or None."""
        own = OwnLoft()
        *rows, last = text.split("\n")
        for at, row in enumerate(rows):
            if not DEED.fullmatch(row) or own.do(deed_of(row)):
                return at
        return len(rows) if last else None

    def test_a_page_changes_nothing(self):
        chance, loft = self.drawn_loft(2100)
        before = loft.deeds(), loft.undone(), loft.names(), loft.rows()
        self.assertEqual(page(loft), page(loft))
        self.assertEqual((loft.deeds(), loft.undone(), loft.names(), loft.rows()), before)


class NamesTest(unittest.TestCase):
    def test_names_are_as_the_interface_tells(self):
        for function, wished in ((deed_text, "deed"), (deed_of, "text"), (page, "loft"), (loft_of, "text")):
            self.assertEqual(list(inspect.signature(function).parameters), [wished])


if __name__ == "__main__":
    unittest.main()

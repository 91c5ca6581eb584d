"""cupweb/desk.py: points 2, 20 and 21, and the interface's section of that name."""

import inspect
import random
import re
import unittest

from cupweb import errors
from cupweb.desk import Desk
from cupweb.groups import cuts, rings
from cupweb.loft import Loft
from cupweb.pages import deed_of, deed_text
from drawn import BENT_PLANE, OwnLoft, closed, loop, some_deed, some_name
from test_pages import DEED, NAME, NUMBER, bent

ASKED = re.compile(
    f"(?:undo|redo|names|rows|faces {NAME}|(?:rings|cuts) {NAME} {NUMBER} {NUMBER}|numbers {NAME}|times {NAME} {NAME}"
    f"|paper {NAME})"
)

# Deeds behind which there is something to ask for.
READY = [("begin", "a")] + [("put", "a", face) for face in BENT_PLANE[1:]] + [
    ("keep", "k", "a", "ring", 0, 0, (1, 2, 0, 0, 0, -1)), ("keep", "l", "a", "cut", 0, 6, (4, 4, 4, 4, 4, 4)),
    ("keep", "m", "a", "cut", 2, 6, (1, 0, 0, 0, 2, 0, 0, 3, 0)), ("keep", "n", "a", "cut", 2, 6, (0,) * 9),
]

NO_LINES = (
    "", " ", "undo ", " undo", "undo 1", "Undo", "undo\n", "undo all", "redo a", "names a", "names ", "rows r", "row r",
    "row", "faces", "faces ", "faces a b", "faces A", "faces a1", "faces abcdefghi", "face a", "faces  a", "rings a",
    "rings a 1", "rings a 1 0 0", "rings a -1 0", "rings a 1 -1", "rings a 01 0", "rings a 1 00", "rings a x 0",
    "rings 1 a 0", "rings a 1  0", "rings a 1 1" + "0" * 30, "cuts a", "cuts a 1", "cuts a 1 0 ", "cuts a -1 0",
    "ring a 1 0", "cut a 1 0", "numbers", "numbers r s", "numbers 1", "number r", "times r", "times r s t", "times r 1",
    "times", "time r s", "paper", "paper r s", "paper -", "papers r", "done", "none", "no", "no line", "twin", "deeds",
    "undone", "shape a", "product r s", "bundle", "begin", "begin A", "begin a b", "put a", "put a 0 1", "put a -1",
    "keep r a ring 1 1,2", "keep r a ring 1 0", "all", "all: ", "all: undo", "all: names", "all: all:", "all: begin a;",
    "begin a\n", "begin a\nbegin b", "exit", "help", "\n",
)


def shown(things):
    return " ".join(str(thing) for thing in things) or "none"


def written(numbers):
    return ",".join(str(number) for number in numbers) or "-"


def own_answer(loft, line):
    """What a desk with this loft answers, by what the loft tells; the loft is changed as the desk's."""
    if DEED.fullmatch(line):
        loft.do(deed_of(line))
        return "done"
    if not ASKED.fullmatch(line):
        return "no line"
    word, *parts = line.split(" ")
    if word in ("undo", "redo"):
        return deed_text(getattr(loft, word)())
    if word in ("names", "rows"):
        return shown(getattr(loft, word)())
    if word == "faces":
        return shown(".".join(map(str, face)) for face in loft.shape(parts[0]).tops())
    if word in ("rings", "cuts"):
        group = {"rings": rings, "cuts": cuts}[word]
        return shown(group(loft.shape(parts[0]), int(parts[1]), rests=int(parts[2])).orders)
    if word == "numbers":
        return shown(loft.numbers(parts[0]))
    if word == "times":
        return shown(loft.product(*parts))
    told = loft.paper(parts[0])
    many = f" by {told[2]}" if told[0] == "barred" else ""
    return told[0] + " " + written(told[1]) + many


def own_say(loft, line):
    try:
        return own_answer(loft, line)
    except errors.WebError as refused:
        return "no " + type(refused).__name__


def some_line(chance, own):
    """A line for a desk whose loft stands so: a deed, or an asking, some of them bent."""
    way = chance.random()
    if way < 0.4:
        deed = some_deed(chance, own)
        if DEED.fullmatch(deed_text(deed)):
            return deed_text(deed)
    web, row, other = some_name(chance, own.webs), some_name(chance, own.kept), some_name(chance, own.kept)
    size, rests = chance.choice((0, 1, 2, 3, 3, 4, 10 ** 29)), chance.choice((0, 0, 2, 3, 4, 60, 1, 61))
    word = chance.choice(("rings", "cuts"))
    line = chance.choice((
        "undo", "redo", "names", "rows", f"faces {web}", f"{word} {web} {size} {rests}", f"{word} {web} {size} {rests}",
        f"numbers {row}", f"times {row} {other}", f"times {row} {row}", f"paper {row}",
    ))
    return bent(chance, line) if way > 0.9 else line


class DeskCase(unittest.TestCase):
    def says(self, desk, lines):
        for line, right in lines:
            with self.subTest(line=line):
                told = desk.say(line)
                self.assertIs(type(told), str)
                if isinstance(right, str):
                    self.assertEqual(told, right)
                else:
                    self.assertIn(told, right)


class ByHandTest(DeskCase):
    def test_every_form(self):
        desk = Desk()
        self.says(desk, (
            ("names", "none"), ("rows", "none"), ("undo", "no NothingLeft"), ("redo", "no NothingLeft"),
            ("faces a", "no NoWeb"), ("begin a", "done"), ("faces a", "none"), ("rings a 0 0", "none"),
            ("put a 1.0", "done"), ("put a 1.2", "done"), ("put a 2.0", "done"), ("put a 9", "done"),
            ("faces a", "0.1 0.2 1.2 9"), ("names", "a"), ("rings a 0 0", "0 0"), ("rings a 1 0", "0"),
            ("rings a 2 0", "none"), ("cuts a 0 6", "6 6"), ("cuts a 3 60", "none"), ("rings a 4 0", "no BadSize"),
            ("cuts a 4 1", "no BadSize"), ("rings a 1 1", "no BadRests"), ("rings a 1 61", "no BadRests"),
            ("rings b 4 1", "no NoWeb"), ("keep r a ring 1 0 2,-2,2", "done"), ("numbers r", ("2", "-2")),
            ("keep c a cut 1 0 0,0,3", "done"), ("keep e a cut 0 0 1,1,1,1", "done"), ("rows", "r c e"),
            ("numbers c", ("3", "-3")), ("times e c", ("3", "-3")), ("times c c", "none"), ("times r c", "no BadKind"),
            ("times c z", "no NoRow"), ("paper z", "no NoRow"), ("numbers z", "no NoRow"), ("begin b", "done"),
            ("keep f b cut 1 0 -", "done"), ("times c f", "no Unlike"), ("paper f", "found -"), ("numbers f", "none"),
            ("times f f", "none"), ("names", "a b"), ("rows", "r c e f"), ("begin a", "no Taken"),
            ("put a 0.0", "no BadFace"), ("put a 0.1", "no Had"), ("take a 4", "no NoFace"), ("finer a 9", "no BadSize"),
            ("lesser a 0.1", "no NotFree"), ("keep q a cat 1 0 1", "no BadKind"), ("keep q a cut 1 0 1", "no BadRow"),
            ("keep q a ring 1 0 1,1,1", "no NotShut"), ("forget q", "no NoRow"), ("drop q", "no NoWeb"),
        ))

    def test_undo_and_redo(self):
        desk = Desk()
        self.says(desk, (
            ("begin a", "done"), ("all: put a 2.1; put a 0", "done"), ("keep r a ring 0 5 -1,7,0", "done"), ("all:", "done"),
            ("undo", "all:"), ("undo", "keep r a ring 0 5 -1,7,0"), ("rows", "none"), ("undo", "all: put a 2.1; put a 0"),
            ("faces a", "none"), ("redo", "all: put a 2.1; put a 0"), ("faces a", "0 1.2"), ("undo", "all: put a 2.1; put a 0"),
            ("undo", "begin a"), ("undo", "no NothingLeft"), ("names", "none"), ("redo", "begin a"),
            ("all: begin b; begin b", "no Taken"), ("redo", "all: put a 2.1; put a 0"), ("put a 5", "done"),
            ("redo", "no NothingLeft"), ("all: begin c; drop zz", "no NoWeb"), ("names", "a"),
        ))

    def test_papers(self):
        desk = Desk()
        for line in ("begin a", "put a 0.1", "keep r a ring 0 0 3,-3", "keep c a cut 1 0 -4", "keep b a ring 0 0 1,0"):
            self.assertEqual(desk.say(line), "done")
        self.says(desk, (
            ("paper r", "found -3"), ("paper c", ("found 0,-4", "found 4,0")),
        ))
        self.assertRegex(desk.say("paper b"), r"^barred -?[0-9]+,-?[0-9]+ by 0$")
        desk.say("keep d a cut 0 7 2,2")
        self.assertRegex(desk.say("paper d"), r"^barred [0-6],[0-6] by 7$")

    def test_the_bent_plane(self):
        desk = Desk()
        text = "all: begin a" + "".join("; put a " + ".".join(map(str, face)) for face in BENT_PLANE)
        self.says(desk, (
            (text, "done"), ("rings a 1 0", "2"), ("cuts a 2 0", "2"), ("rings a 0 0", "0"), ("rings a 2 0", "none"),
            ("rings a 2 4", "2"), ("rings a 0 4", "4"),
        ))
        self.assertEqual(desk.loft.shape("a").tops(), sorted(BENT_PLANE))

    def test_lines_of_no_form(self):
        desk = Desk()
        for line in ("begin a", "put a 0.1", "begin b", "undo"):
            desk.say(line)
        before = desk.loft.deeds(), desk.loft.undone()
        for line in NO_LINES:
            self.says(desk, ((line, "no line"),))
            self.assertEqual((desk.loft.deeds(), desk.loft.undone()), before)


class DrawnTest(DeskCase):
    def test_drawn_lines(self):
        answers = []
        for seed in range(60):
            chance = random.Random(2200 + seed)
            desk, twin = Desk(), Loft()
            if seed % 2:
                for deed in READY:
                    twin.do(deed)
                    desk.loft.do(deed)
            for _ in range(60):
                self.by_hand(chance, desk, twin)
                own = self.seen(twin)
                line = some_line(chance, own)
                right = own_say(twin, line)
                with self.subTest(seed=seed, line=line):
                    self.assertEqual(desk.say(line), right)
                    self.assertEqual((desk.loft.deeds(), desk.loft.undone()), (twin.deeds(), twin.undone()))
                answers.append((line.split(" ")[0], right.split(" ")[0]))
        for word in ("undo", "redo", "names", "rows", "faces", "rings", "cuts", "numbers", "times", "paper"):
            told = [answer for asked, answer in answers if asked == word]
            self.assertGreater(len(told), 20, word)
            self.assertTrue(word in ("names", "rows") or "no" in told, word)
        for word in ("found", "barred", "done", "none", "no"):
            self.assertGreater(len([answer for asked, answer in answers if answer == word]), 10, word)

    def by_hand(self, chance, desk, twin):
        """A deed or a taking back done by hand on the desk's loft, now and then."""
        way = chance.random()
        if way < 0.15:
            deed = some_deed(chance, self.seen(twin))
            if self.seen(twin).do(deed) is None:
                twin.do(deed)
                desk.loft.do(deed)
        elif way < 0.2 and twin.deeds():
            self.assertEqual(desk.loft.undo(), twin.undo())

    def seen(self, loft):
        """How the loft stands, as the drawing of deeds looks at it."""
        own = OwnLoft()
        own.webs = {name: closed(loft.shape(name).tops()) for name in loft.names()}
        own.kept = {row: loft.row(row) for row in loft.rows()}
        return own

    def test_two_desks_beside_one_another(self):
        one, other = Desk(), Desk()
        self.assertIsNot(one.loft, other.loft)
        self.says(one, (("begin a", "done"), ("names", "a")))
        self.says(other, (("names", "none"), ("begin b", "done"), ("begin a", "done"), ("names", "b a")))
        self.says(one, (("names", "a"), ("undo", "begin a"), ("undo", "no NothingLeft")))
        self.says(other, (("names", "b a"),))

    def test_deeds_by_hand_on_its_loft(self):
        desk = Desk()
        held = desk.loft
        self.assertIs(type(held), Loft)
        self.assertEqual((held.names(), held.deeds()), ([], []))
        held.begin("a")
        for face in loop(3):
            held.put("a", face)
        self.says(desk, (("names", "a"), ("faces a", "0.1 0.2 1.2"), ("rings a 1 0", "0")))
        desk.say("begin b")
        self.assertEqual(held.names(), ["a", "b"])
        held.undo()
        self.says(desk, (("redo", "begin b"), ("names", "a b")))
        self.assertIs(desk.loft, held)

    def test_asked_again_the_same_is_told(self):
        desk = Desk()
        for line in ("begin a", "put a 0.1.2", "keep r a ring 1 0 1,-1,1", "keep c a cut 1 6 1,2,1"):
            desk.say(line)
        for line in ("names", "rows", "faces a", "rings a 0 0", "numbers r", "times c c", "paper r", "paper c"):
            self.assertEqual(desk.say(line), desk.say(line))


class NamesTest(unittest.TestCase):
    def test_names_are_as_the_interface_tells(self):
        self.assertEqual(list(inspect.signature(Desk).parameters), [])
        self.assertEqual(list(inspect.signature(vars(Desk)["say"]).parameters), ["self", "line"])
        self.assertIn("loft", vars(Desk()))


if __name__ == "__main__":
    unittest.main()

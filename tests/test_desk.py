"""[39]: a desk."""

import re
import unittest

from support import ANY, check_unchanged, random_live_loop, random_loop, rng_of, same, slow_is_live
from unwaited.arcs import dead_ring
from unwaited.covers import covers, needless_waits
from unwaited.crowds import greatest_crowd, is_crowd
from unwaited.desk import Desk
from unwaited.errors import Dead, LoopError, NoCommand, NoText, Wrong
from unwaited.expressions import read_expression
from unwaited.forms import is_name, names_of, read_names
from unwaited.fractions import fraction_text
from unwaited.kept import Kept
from unwaited.looptexts import read_loop, show_loop
from unwaited.matchings import fewest_cells
from unwaited.meanings import values_of
from unwaited.paths import is_before
from unwaited.stairs import corners, stair
from unwaited.turns import shift

TEXT = "task a first 7 = a @ 1 + 1\ntask b first 0 = a * 2 + b @ 1\nwait a b 1"
NUMBER = "(0|[1-9][0-9]*)"
NAME = "([a-z]{1,12})"


def is_up_to(word, most):
    return re.fullmatch(NUMBER, word) is not None and int(word) <= most


def none_or(thing):
    return "none" if thing is None else str(thing)


def change_of(line):
    """The method and the arguments of a change, None if the line is none, by [39] and [14]."""
    words = [word for word in line.split(" ") if word]
    text = " ".join(words)
    fixed = {"strike needless": ("strike_needless",), "cuts on": ("set_cut", True), "cuts off": ("set_cut", False),
             "undo": ("undo",)}
    if text in fixed:
        return fixed[text]
    if words[:1] == ["task"] and len(words) > 5 and words[2] == "first" and words[4] == "=" and is_name(words[1]) \
            and is_up_to(words[3], 9999):
        try:
            return "put_task", (words[1], int(words[3]), read_expression(" ".join(words[5:])))
        except NoText:
            return None
    if words[:1] == ["wait"] and len(words) == 4 and all(map(is_name, words[1:3])) and re.fullmatch(NUMBER, words[3]):
        return "put_wait", (words[1], words[2], int(words[3]))
    if words[:2] == ["strike", "task"] and len(words) == 3 and is_name(words[2]):
        return "strike_task", words[2]
    if words[:2] == ["strike", "wait"] and len(words) == 5 and all(map(is_name, words[2:4])) \
            and re.fullmatch(NUMBER, words[4]):
        return "strike_wait", (words[2], words[3], int(words[4]))
    if words[:1] == ["worth"] and len(words) == 3 and is_name(words[1]) and is_up_to(words[2], 1000):
        return "weigh", words[1], int(words[2])
    return None


def answer_of(kept, line):
    """The answer to a question, None if the line is none."""
    words = [word for word in line.split(" ") if word]
    loop, is_cut = kept.loop(), kept.is_cut()
    if words == ["loop"]:
        return show_loop(loop).split("\n")
    if words == ["cells"]:
        return [none_or(fewest_cells(loop, is_cut))]
    if words == ["matching"]:
        matching = kept.matching()
        return ["none"] if matching is None else ["%s %s %d" % (a, matching[a], shift(loop, a, matching[a], is_cut))
                                                  for a in sorted(matching)]
    if words == ["crowd"]:
        crowd = greatest_crowd(loop, is_cut)
        return ["none"] if crowd is None else ["%s %d" % step for step in crowd]
    if words == ["corners"]:
        return ["%d %d" % corner for corner in corners(loop, kept.worths(), is_cut)]
    if words == ["covers"]:
        return ["%s %s %d" % arc for arc in covers(loop)]
    if words == ["needless"]:
        return ["%s %s %d" % wait for wait in needless_waits(loop)]
    if words == ["price"]:
        return [none_or(fewest_cells(loop, False)) + " " + none_or(fewest_cells(loop, True))]
    if words[:1] == ["share"] and len(words) == 2 and is_up_to(words[1], 60):
        return [fraction_text(stair(loop, kept.worths(), int(words[1]), is_cut))]
    if words[:1] == ["values"] and len(words) == 2 and is_up_to(words[1], 60):
        return [" ".join([name, *map(str, values)]) for name, values in sorted(values_of(loop, int(words[1])).items())]
    if words[:1] == ["shift"] and len(words) == 3 and set(words[1:]) <= set(read_names(loop)):
        return [none_or(shift(loop, words[1], words[2], is_cut))]
    if words[:1] == ["before"] and len(words) == 5 and {words[1], words[3]} <= set(names_of(loop)) \
            and is_up_to(words[2], 10000) and is_up_to(words[4], 10000):
        return ["yes" if is_before(loop, (words[1], int(words[2])), (words[3], int(words[4]))) else "no"]
    return None


def random_line(rng, loop):
    """A line for a desk that keeps a loop, not always one of the desk."""
    name = rng.choice("aaabbbccdz")
    other = rng.choice("aaabbbccdz")
    d = rng.choice("0012")
    forms = ["task %s first 3 = %s @ 1 + %s" % (name, other, rng.choice("abc1")), "task %s first 0 = round" % name,
             "wait %s %s %s" % (name, other, d), "strike task " + name, "strike wait %s %s %s" % (name, other, d),
             "strike needless", "worth %s %s" % (name, rng.choice(("0", "7", "1000", "1001"))), "cuts on", "cuts off", "undo",
             "loop", "cells", "matching", "crowd", "share " + rng.choice(("0", "1", "4", "60", "61")), "corners", "covers",
             "needless", "values " + rng.choice(("0", "1", "5", "60", "61")), "shift %s %s" % (name, other),
             "before %s %s %s %s" % (name, rng.choice("0123"), other, rng.choice(("4", "9", "10000", "10001"))), "price"]
    forms += ["strike wait %s %s %d" % wait for wait in loop[1][:2]]
    line = rng.choice(forms)
    if rng.random() < 0.15:
        at = rng.randrange(len(line) + 1)
        line = line[:at] + rng.choice((" ", "x", "0", "", " 1", "#")) + line[at + rng.randint(0, 1):]
    return line.replace(" ", "  ") if rng.random() < 0.1 else line


class Lines(unittest.TestCase):
    def check_line(self, desk, kept, line):
        """Says a line to the desk, and does the same to a Kept; returns what kind of line it was."""
        before = desk.kept()
        change, answer = change_of(line), answer_of(kept, line)
        if change is None and answer is None:
            with self.assertRaises(NoCommand, msg=line) as caught:
                desk.execute(line)
            self.assertEqual(caught.exception.line, line)
            self.assertIs(desk.kept() == before, True)
            return "no command"
        if answer is not None:
            self.assertTrue(same(check_unchanged(self, desk.execute, line), answer), line)
            self.assertIs(desk.kept() == before, True)
            return line.split()[0] + (" none" if answer == ["none"] else "")
        try:
            getattr(kept, change[0])(*change[1:])
            told = ["done"]
        except LoopError as error:
            told = ["refused " + type(error).__name__]
        self.assertTrue(same(desk.execute(line), told), line)
        self.assertIs(desk.kept() == kept, True)
        return change[0] + " " + told[0]

    def test_as_said(self):
        rng = rng_of(391)
        told = {}
        for _ in range(120):
            loop = random_live_loop(rng, 3, 2, 4)
            desk, kept = Desk(show_loop(loop)), Kept(loop)
            for _ in range(40):
                kind = self.check_line(desk, kept, random_line(rng, kept.loop()))
                told[kind] = told.get(kind, 0) + 1
        for kind in ("no command", "put_task done", "put_task refused NoTask", "put_task refused Dead", "put_wait done",
                     "put_wait refused NoTask", "put_wait refused Dead", "strike_task done", "strike_task refused NoTask",
                     "strike_task refused Nothing", "strike_wait done", "strike_wait refused Nothing", "strike_needless done",
                     "weigh done", "weigh refused NoTask", "set_cut done", "undo done", "undo refused Nothing", "loop", "cells",
                     "cells none", "matching", "matching none", "crowd", "crowd none", "share", "corners", "covers",
                     "needless", "values", "shift", "shift none", "before", "price"):
            self.assertGreater(told.get(kind, 0), 3, kind)

    def test_ordinary(self):
        desk = Desk(TEXT)
        self.assertEqual(desk.execute("loop"), TEXT.split("\n"))
        self.assertEqual(desk.execute("crowd"), ["%s %d" % step for step in greatest_crowd(read_loop(TEXT), False)])
        self.assertIs(is_crowd(read_loop(TEXT), False, greatest_crowd(read_loop(TEXT), False)), True)
        for line, told in (("share 0", ["0"]), ("share 1", ["1"]), ("share 60", ["2"]), ("corners", ["0 0", "2 2"]),
                           ("needless", []), ("values 0", ["a", "b"]), ("values 1", ["a 8", "b 16"]), ("price", ["2 3"]),
                           ("shift b a", ["2"]), ("before a 0 b 0", ["yes"]), ("before b 0 a 0", ["no"]),
                           ("before b 0 a 1", ["yes"]), ("before a 10000 b 10000", ["yes"]), ("before a 0 a 0", ["no"]),
                           ("covers", ["a b 0", "b a 1"])):
            self.assertEqual(desk.execute(line), told, line)
        self.assertEqual(desk.execute("cuts on"), ["done"])
        self.assertEqual([desk.execute(line) for line in ("corners", "share 1", "share 2", "shift b b")],
                         [["0 0", "3 2"], ["2/3"], ["4/3"], ["2"]])

    def test_where_the_answer_is_none_or_no_line(self):
        desk = Desk("task a first 0 = round")
        for line, told in (("cells", ["0"]), ("matching", []), ("crowd", []), ("corners", ["0 0"]), ("covers", []),
                           ("needless", []), ("share 3", ["0"]), ("price", ["0 0"])):
            self.assertEqual(desk.execute(line), told, line)
        self.assertEqual(desk.execute("task b first 0 = a"), ["done"])
        for line, told in (("cells", ["none"]), ("matching", ["none"]), ("crowd", ["none"]), ("corners", ["0 0"]),
                           ("covers", ["a b 0"]), ("needless", []), ("shift a a", ["none"]), ("price", ["none none"])):
            self.assertEqual(desk.execute(line), told, line)

    def test_blanks(self):
        desk = Desk(" " + TEXT.replace(" ", "  ").replace("\n", " \n\n#\n "))
        self.assertEqual(desk.execute("   share   1  "), ["1"])
        self.assertEqual(desk.execute(" cells"), ["2"])
        self.assertEqual(desk.execute("  task  c   first 1  =   ( a  ) "), ["done"])
        self.assertEqual(desk.execute("  strike   task c  "), ["done"])
        self.assertEqual(desk.execute("wait  b  a  0 "), ["done"])
        self.assertEqual(desk.execute(" needless "), ["b a 0"])

    def test_no_commands(self):
        desk = Desk(TEXT)
        before = desk.kept()
        for line in ("", " ", "share", "share 61", "share 01", "share -1", "share x", "share 1 1", "share " + "9" * 2900, "cells 1",
                     "values", "values 61", "values 060", "shift a", "shift a c", "shift a b c", "shift a 1", "before a 0 b",
                     "before a 10001 b 0", "before a 0 b 10001", "before c 0 a 0", "before a b 0 0", "before a 00 b 0", "undo 1",
                     "cuts", "cuts of", "cuts on on", "worth a", "worth a 1001", "worth 1 a", "worth round 1", "worth a 01",
                     "strike", "strike task", "strike task round", "strike task a b", "strike task A", "strike wait a b",
                     "strike wait a b x", "strike wait a b 1 1", "strike wait if b 1", "strike needless 1", "task", "wait",
                     "task a", "task a first 0 =", "task a first 0 = a +", "task if first 0 = 1", "task a first 10000 = 1",
                     "task a first 0 = a @ 0", "wait a b", "wait a b 01", "wait a b 1 1", "wait a then 1", "# cells", "#",
                     "Cells", "cells\t", "matching crowd", "price price", "loop loop", "kept", "needles", "covers a",
                     "task a first 0 = " + "1 + " * 60 + "1"):
            with self.assertRaises(NoCommand, msg=line) as caught:
                desk.execute(line)
            self.assertEqual(caught.exception.line, line)
        self.assertIs(desk.kept() == before, True)

    def test_bounds(self):
        desk, kept = Desk(TEXT), Kept(read_loop(TEXT))
        for line in ("worth a 1000", "worth b 0", "share 60", "values 60", "before a 0 b 10000", "before a 10000 b 0",
                     "task abcdefghijkl first 9999 = 9999", "strike wait a b 123456789", "strike task zzz", "worth zzz 5",
                     "task c first 0 = " + "1 + " * 59 + "1", "wait zzz b 0", "wait b zzz 99"):
            self.assertNotEqual(self.check_line(desk, kept, line), "no command", line)

    def test_not_what_it_reads_alone(self):
        # A READ task that is READ no more has no shift; a name that is new may be asked.
        desk = Desk("task a first 0 = round\ntask b first 0 = a\nwait a b 1")
        self.assertEqual(desk.execute("shift a a"), ["1"])
        self.assertRaises(NoCommand, desk.execute, "shift a b")
        self.assertEqual(desk.execute("task b first 0 = b @ 1"), ["done"])
        self.assertRaises(NoCommand, desk.execute, "shift a a")
        self.assertEqual(desk.execute("shift b b"), ["1"])

    def test_kept_is_a_twin(self):
        desk = Desk(TEXT)
        twin = desk.kept()
        twin.set_cut(True)
        self.assertEqual(desk.execute("cells"), ["2"])
        desk.execute("worth a 5")
        self.assertEqual([twin.worths(), desk.kept().worths()], [{"a": 1, "b": 1}, {"a": 5, "b": 1}])
        desk.execute("undo")
        self.assertIs(desk.kept() == Kept(read_loop(TEXT)), True)

    def test_answers_are_new(self):
        desk = Desk(TEXT)
        desk.execute("loop").clear()
        desk.execute("cells").append("x")
        self.assertEqual([desk.execute("loop"), desk.execute("cells")], [TEXT.split("\n"), ["2"]])


class Wrongs(unittest.TestCase):
    def test_texts(self):
        rng = rng_of(392)
        for thing in ANY:
            if not isinstance(thing, str):
                with self.assertRaises(Wrong) as caught:
                    Desk(thing)
                self.assertEqual(caught.exception.place, 0)
            else:
                self.assertRaises(NoText, Desk, thing)
        with self.assertRaises(NoText) as caught:
            Desk("task a first 0 = b\nwait")
        self.assertEqual(caught.exception.place, (0, 5))
        dead = 0
        for _ in range(150):
            loop = random_loop(rng, 4, 1, 4)
            if slow_is_live(loop):
                self.assertEqual(Desk(show_loop(loop)).kept().loop(), loop)
            else:
                with self.assertRaises(Dead) as caught:
                    Desk(show_loop(loop))
                self.assertEqual(caught.exception.ring, dead_ring(loop))
                dead += 1
        self.assertGreater(dead, 20)

    def test_lines(self):
        desk = Desk(TEXT)
        for thing in ANY + ["cells\n", "\ncells", "cells\ncells", "\n", "x\ny"]:
            if not isinstance(thing, str) or "\n" in thing:
                with self.assertRaises(Wrong) as caught:
                    desk.execute(thing)
                self.assertEqual(caught.exception.place, 0)
            else:
                self.assertRaises(NoCommand, desk.execute, thing)
        self.assertIs(desk.kept() == Kept(read_loop(TEXT)), True)


if __name__ == "__main__":
    unittest.main()

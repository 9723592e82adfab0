"""[37]: texts of KEEPINGS, of what a RUN reads and writes, and of the memory."""

import unittest

from slow import Slow, random_keeping
from support import ALONE, ANY, BELT, PAIR, check_unchanged, loop_of, mangled, random_live_loop, rng_of, same
from unwaited.drawings import keeping_text, memory_line, read_keeping, run_lines
from unwaited.errors import NoText, Wrong
from unwaited.forms import is_keeping, is_live_loop
from unwaited.keepings import first_lost
from unwaited.looptexts import read_loop
from unwaited.runs import order_by

SUM = read_loop("task a first 7 = a @ 1 + 1\ntask b first 0 = a * 2 + b @ 1\nwait a b 1")


def is_number(word):
    return word != "" and set(word) <= set("0123456789") and (word == "0" or word[0] != "0")


def place_as_said(names, text):
    """The least place of a fault in a text, None if it is a KEEPING's: each fault by [37] for itself."""
    lines = [[word for word in line.split(" ") if word] for line in text.split("\n")]
    told = [(at, words) for at, words in enumerate(lines) if words and words[0] != "#"]
    faults = []
    for place, (at, words) in enumerate(told):
        if words[0] not in names or words[0] in [other[0] for _, other in told[:place]]:
            faults.append((at, 0))
        faults += [(at, index) for index, word in enumerate(words) if index and word != "-" and not is_number(word)]
        many, first = len(words) - 1, len(told[0][1]) - 1
        if many != first or many == 0:
            faults.append((at, 1 + min(many, first)))
    if faults:
        return min(faults)
    if {words[0] for _, words in told} != set(names):
        return (len(lines), 0)
    cells = {int(word) for _, words in told for word in words[1:] if word != "-"}
    return None if cells == set(range(len(cells))) else (len(lines), 1)


class Texts(unittest.TestCase):
    def check_no_text(self, place, loop, text):
        with self.assertRaises(NoText) as caught:
            read_keeping(loop, text)
        self.assertTrue(same(caught.exception.place, place), (text, caught.exception.place, place))

    def test_there_and_back(self):
        rng = rng_of(371)
        for _ in range(200):
            slow = Slow(random_live_loop(rng, 5, 2, 3))
            period, rows = random_keeping(rng, slow.read_names, 5, 12, 0.3)
            period = period if rows else 1
            keeping = (period, dict(sorted(rows.items(), reverse=True)))
            text = check_unchanged(self, keeping_text, slow.loop, keeping)
            lines = [" ".join([name] + ["-" if cell is None else str(cell) for cell in rows[name]])
                     for name in slow.read_names]
            self.assertEqual(text, "\n".join(lines))
            told = check_unchanged(self, read_keeping, slow.loop, text)
            self.assertTrue(same(told, keeping))
            self.assertEqual(list(told[1]), slow.read_names)
            # In any order, with lines that mean nothing, and more blanks.
            rng.shuffle(lines)
            lines.insert(rng.randint(0, len(lines)), rng.choice(("", "  ", "# a 0 0", " #", "#  - x")))
            self.assertTrue(same(read_keeping(slow.loop, "\n".join(lines).replace(" ", "  ") + " "), keeping))

    def test_ordinary(self):
        self.assertEqual(read_keeping(SUM, "b - 1\n# two cells\na 0 0"), (2, {"a": (0, 0), "b": (None, 1)}))
        self.assertEqual(keeping_text(SUM, (2, {"b": (None, 1), "a": (0, 0)})), "a 0 0\nb - 1")
        self.assertEqual(read_keeping(SUM, "a -\nb -"), (1, {"a": (None,), "b": (None,)}))
        self.assertEqual(read_keeping(SUM, "\n\n  b   0 \n\na 1\n"), (1, {"a": (1,), "b": (0,)}))

    def test_no_read_task(self):
        self.assertEqual(keeping_text(ALONE, (1, {})), "")
        self.assertEqual(keeping_text(ALONE, (5, {})), "")
        for text in ("", "\n", "  \n# a 0\n", "#"):
            self.assertEqual(read_keeping(ALONE, text), (1, {}))
        self.check_no_text((0, 0), ALONE, "a 0")
        self.check_no_text((1, 0), ALONE, "\na")

    def test_each_fault(self):
        for text, place in (
                ("a 0\nc 1", (1, 0)), ("a 0\na 1", (1, 0)), ("a 0\n0 1", (1, 0)), ("- 0", (0, 0)), ("a 0\nb x", (1, 1)),
                ("a 0\nb 01", (1, 1)), ("a 0\nb -1", (1, 1)), ("a 0\nb +", (1, 1)), ("a 0\nb a", (1, 1)), ("a 0 1\nb 0", (1, 2)),
                ("a 0\nb 0 1", (1, 2)), ("a 0 1\nb", (1, 1)), ("a\nb", (0, 1)), ("a\nb 0", (0, 1)), ("a 0 #", (0, 2)),
                ("a 0\nb 0 x", (1, 2)), ("a 0\nb x 0", (1, 1)), ("a 0 1\nb x", (1, 1)), ("a 0 1 2\nb 0", (1, 2)),
                ("", (1, 0)), ("\n#\n", (3, 0)), ("a 0", (1, 0)), ("b 0\n", (2, 0)), ("a 0\nb 2", (2, 1)), ("a 1\nb 1", (2, 1)),
                ("a 1\nb -\n\n", (4, 1)), ("a 0\nb " + "9" * 2900, (2, 1)), ("x\nb", (0, 0)), ("x y z\na 0", (0, 0)),
                ("# a\na 0\nb\n", (2, 1)), ("a 0\t\nb 0", (0, 1)), ("a0 0", (0, 0)), ("A 0", (0, 0))):
            self.check_no_text(place, SUM, text)
            self.assertEqual(place_as_said(["a", "b"], text), place, text)

    def test_spoilt(self):
        rng = rng_of(372)
        told = {}
        words = ("a", "b", "c", "-", "0", "1", "2", "x", "#", "", "\n", "\n", "00", "10")
        for _ in range(4000):
            loop = rng.choice((SUM, BELT, PAIR))
            names = Slow(loop).read_names
            if rng.random() < 0.3:
                text = " ".join(rng.choice(words) for _ in range(rng.randint(0, 9)))
            else:
                keeping = random_keeping(rng, names, 3, 3, 0.3)
                text = keeping_text(loop, keeping)
                for _ in range(rng.randint(0, 2)):
                    at = rng.randrange(len(text) + 1)
                    text = text[:at] + rng.choice(("", " ", " 0 ", "\n", "a", "-", "1", " # ", "b")) + text[at + rng.randint(0, 2):]
            place = place_as_said(names, text)
            if place is None:
                self.assertIs(is_keeping(loop, read_keeping(loop, text)), True)
            else:
                self.check_no_text(place, loop, text)
            kind = place if place is None else (place[0] > text.count("\n"), min(place[1], 3))
            told[kind] = told.get(kind, 0) + 1
        self.assertGreater(min(told.values()), 20, told)
        self.assertEqual(len(told), 7, told)

    def test_wrong_arguments(self):
        def check(place, *arguments):
            with self.assertRaises(Wrong) as caught:
                read_keeping(*arguments)
            self.assertEqual(caught.exception.place, place)

        for thing in ANY + mangled(PAIR):
            if not is_live_loop(thing):
                for text in ("a 0", "x", thing):
                    check(0, thing, text)
            if not isinstance(thing, str):
                check(1, PAIR, thing)
            else:
                place = place_as_said(["a"], thing)
                if place is not None:
                    self.check_no_text(place, PAIR, thing)
        check(0, (PAIR[0], (("a", "b", 0),)), "a 0")


class Runs(unittest.TestCase):
    def lines_as_said(self, slow, keeping, run):
        written, lines = {}, []
        for name, at in run:
            words = [name, str(at), "reads"]
            for earlier, d in sorted(slow.reads[name]):
                if at - d < 0:
                    words.append("first")
                elif slow.cell(keeping, (earlier, at - d)) is None:
                    words.append("slow")
                else:
                    there = written[slow.cell(keeping, (earlier, at - d))]
                    words.append("%s:%d" % there + "!" * (there != (earlier, at - d)))
            cell = slow.cell(keeping, (name, at)) if name in slow.readers else "none"
            lines.append(" ".join(words + ["to", "slow" if cell is None else str(cell)]))
            written[cell] = (name, at)
        memory = {cell: "%s:%d" % step for cell, step in written.items() if isinstance(cell, int)}
        many = max([cell for row in keeping[1].values() for cell in row if cell is not None], default=-1) + 1
        return tuple(lines), " ".join(memory.get(cell, ".") for cell in range(many))

    def test_as_said(self):
        rng = rng_of(373)
        lost = 0
        for _ in range(200):
            slow = Slow(random_live_loop(rng, 4, 3, 4))
            keeping = random_keeping(rng, slow.read_names, 3, 3, 0.3)
            run = order_by(slow.loop, 5, [rng.randrange(9) for _ in range(20)])[:rng.randint(0, 20)]
            lines, memory = self.lines_as_said(slow, keeping, run)
            self.assertEqual(check_unchanged(self, run_lines, slow.loop, keeping, run), lines)
            self.assertEqual(check_unchanged(self, memory_line, slow.loop, keeping, run), memory)
            lost += any("!" in line for line in lines)
            place = first_lost(slow.loop, keeping, run)
            self.assertEqual(next((at for at, line in enumerate(lines) if "!" in line), None), place)
        self.assertGreater(lost, 30)

    def test_each_word(self):
        loop = loop_of(("a", []), ("b", [("a", 0), ("a", 1), ("b", 2)]), ("c", [("b", 0)]), ("d", []))
        run = (("d", 0), ("a", 0), ("a", 1), ("b", 0), ("b", 1), ("c", 0), ("c", 1))
        self.assertEqual(run_lines(loop, (2, {"a": (0, None), "b": (1, 1)}), run),
                         ("d 0 reads to none", "a 0 reads to 0", "a 1 reads to slow", "b 0 reads a:0 first first to 1",
                          "b 1 reads slow a:0 first to 1", "c 0 reads b:1! to none", "c 1 reads b:1 to none"))
        self.assertEqual(memory_line(loop, (2, {"a": (0, None), "b": (1, 1)}), run), "a:0 b:1")
        self.assertEqual(memory_line(loop, (2, {"a": (0, None), "b": (1, 2)}), run[:3]), "a:0 . .")
        self.assertEqual([memory_line(loop, (1, {"a": (None,), "b": (None,)}), run), memory_line(loop, (1, {"a": (0,), "b": (1,)}), ())],
                         ["", ". ."])
        self.assertEqual([run_lines(loop, (1, {"a": (0,), "b": (1,)}), ()), run_lines(ALONE, (1, {}), (("a", 9),))],
                         [(), ("a 9 reads to none",)])
        self.assertEqual(memory_line(ALONE, (1, {}), (("a", 9),)), "")


if __name__ == "__main__":
    unittest.main()

"""[14]: texts of LOOPS."""

import unittest

from earley import fault_of
from support import ANY, BELT, PAIR, check_unchanged, random_loop, rng_of
from unwaited.errors import LoopError, NoText, Wrong
from unwaited.forms import is_loop, is_name
from unwaited.looptexts import read_loop, show_loop

ODD = ["a", "b", "c", "task", "wait", "first", "#", "=", "0", "1", "01", "10000", "+", "if", "(", "@", "A", "d"]


def place_of(text):
    """The place of the fault in a text, None if there is none."""
    try:
        read_loop(text)
    except NoText as error:
        return error.place
    return None


def slow_place(text):
    """All faults that [14] names, each by itself; the least place of them."""
    lines = [[word for word in line.split(" ") if word] for line in text.split("\n")]
    lines = [[] if words[:1] == ["#"] else words for words in lines]
    behind = [words[1] if words[:1] == ["task"] and len(words) > 1 and is_name(words[1]) else None for words in lines]
    forms = {}
    places = []
    for at, words in enumerate(lines):
        if not words:
            continue
        fault = fault_of(words[:125], "LINE")
        if len(words) > 125 and words[0] == "task" and (fault is None or fault == 125):
            fault = 125
        if words[0] == "wait":
            fault = fault_of(words, "LINE")
        forms[at] = fault
        if fault is not None:
            places.append((at, fault))
        if behind[at] is not None and behind[at] in behind[:at]:
            places.append((at, 1))
        for place, word in enumerate(words):
            in_it = place in (1, 2) if words[0] == "wait" else words[0] == "task" and place > 4
            if in_it and is_name(word) and (fault is None or place < fault) and word not in behind:
                places.append((at, place))
        if fault is None and words[0] == "wait" and words in lines[:at]:
            places.append((at, 0))
    if not places and not any(words[:1] == ["task"] for words in lines):
        places.append((len(lines), 0))
    return min(places, default=None)


class Reading(unittest.TestCase):
    def test_lines_in_any_order(self):
        text = "  # a sum  \nwait a b 1\n\n   \ntask b first 0 = a * 2\n#\n task  a first 7 =  a @ 1 + 1  \nwait a a 0\n"
        meant = ((("a", 7, ("two", "+", ("read", "a", 1), ("number", 1))),
                  ("b", 0, ("two", "*", ("read", "a", 0), ("number", 2)))), (("a", "a", 0), ("a", "b", 1)))
        self.assertEqual(check_unchanged(self, read_loop, text), meant)
        self.assertEqual(read_loop("\n".join(reversed(text.split("\n")))), meant)

    def test_edges_that_are_right(self):
        for text in ["task a first 0 = 0", "task a first 9999 = 9999", "task abcdefghijkl first 0 = round",
                     "task a first 0 = b\ntask b first 0 = a", "task a first 0 = a", "# task b\ntask a first 0 = a @ 9",
                     "task a first 0 = 1\nwait a a 0\nwait a a 1", "wait a a " + "9" * 1000 + "\ntask a first 0 = 1",
                     "# #\n# =\n# \ntask a first 0 = round", "task a first 0 = " + " + ".join(["a"] * 60)]:
            self.assertIsNone(place_of(text), text)
            self.assertTrue(is_loop(read_loop(text)))

    def test_faults(self):
        for text, place in [
                ("", (1, 0)), ("\n\n", (3, 0)), ("# a", (1, 0)), (" # task a first 0 = 1 \n", (2, 0)),
                ("#task a first 0 = 1", (0, 0)), ("tusk a first 0 = 1", (0, 0)), ("a", (0, 0)),
                ("task", (0, 1)), ("task a", (0, 2)), ("task a first", (0, 3)), ("task a first 0", (0, 4)),
                ("task a first 0 =", (0, 5)), ("task if first 0 = 1", (0, 1)), ("task A", (0, 1)),
                ("task a last 0 = 1", (0, 2)), ("task a first 10000 = 1", (0, 3)), ("task a first 00 = 1", (0, 3)),
                ("task a first a = 1", (0, 3)), ("task a first 0 + 1", (0, 4)), ("task a first 0 = 1 1", (0, 6)),
                ("task a first 0 = a @ 0", (0, 7)), ("task a first 0 = ( a", (0, 7)),
                ("task a first 0 = 1\n\nwait a", (2, 2)), ("task a first 0 = 1\nwait", (1, 1)),
                ("task a first 0 = 1\nwait a a", (1, 3)), ("task a first 0 = 1\nwait a a 01", (1, 3)),
                ("task a first 0 = 1\nwait a a a", (1, 3)), ("task a first 0 = 1\nwait a a 0 0", (1, 4)),
                ("task a first 0 = 1\nwait a then 0", (1, 2)), ("task a first 0 = 1\nwait 0 a 0", (1, 1)),
                ("task a first 0 = b", (0, 5)), ("task a first 0 = a + b", (0, 7)), ("wait a a 0", (0, 1)),
                ("task a first 0 = 1\nwait a b 0", (1, 2)), ("task a first 0 = 1\nwait b a 0", (1, 1)),
                ("task a first 0 = 1\nwait a a 2\nwait a a 2", (2, 0)),
                ("task a first 0 = 1\nwait a a 2\n# x\nwait  a a  2 ", (3, 0)),
                ("task a first 0 = 1\ntask a first 0 = 1", (1, 1)), ("task a first 0 = 1\ntask a", (1, 1)),
                ("task a first 0 = 1\ntask b first 1 = 2\ntask a\ntask b", (2, 1))]:
            self.assertEqual(place_of(text), place, text)

    def test_least_place_of_many(self):
        for text, place in [
                ("task a first 7 = b\ntask a first 8 = 1 +", (0, 5)),
                ("task a first 7 = b +", (0, 5)), ("task a first 7 = + b", (0, 5)),
                ("task a first 7 = a + + b", (0, 7)), ("task a first 7 = b b", (0, 5)),
                ("task a first 7 = a a b", (0, 6)),
                ("task a first 0 = 1\ntask a first 8 = b +", (1, 1)),
                ("wait a b x\ntask a first 0 = 1", (0, 2)), ("wait a a x\ntask a first 0 = 1", (0, 3)),
                ("wait b x", (0, 1)), ("wait a 1\ntask a", (0, 2)),
                ("task a first 0 = b\ntask b", (1, 2)), ("task a first 0 = b\ntask b first 1 = 1 1", (1, 6)),
                ("task a first 0 = b\ntask b b b b", (1, 2)), ("task a first 0 = b\n# task b first 0 = 1", (0, 5)),
                ("task a first 0 = b\ntask then b", (0, 5)), ("task a first 0 = b\ntusk b first 0 = 1", (0, 5)),
                ("task a\ntask a first 0 = 1", (0, 2)), ("wait a a 1 1\nwait a a 1\ntask a first 0 = 1", (0, 4)),
                ("task a first 0 = 1\nwait a a 1\nwait a a 1 1", (2, 4)),
                ("task a first 0 = 1\nwait a a 1\nwait a a 1\nwait a b 1", (2, 0)),
                ("task a first 0 = 1\nwait a b 1\nwait a b 1", (1, 2)),
                ("\n\ntask a first 0 = 1\nx\ny", (3, 0))]:
            self.assertEqual(place_of(text), place, text)

    def test_many_words(self):
        head = "task a first 0 = "
        text = "if a then a else " + " + ".join(["a"] * 58)
        self.assertEqual(len(text.split()), 120)
        self.assertIsNone(place_of(head + text))
        self.assertEqual(place_of(head + text + " +"), (0, 125))
        self.assertEqual(place_of(head + text + " + a"), (0, 125))
        self.assertEqual(place_of(head + text[:-1] + "+"), (0, 124))
        self.assertEqual(place_of(head + text[:-1] + "+ +"), (0, 124))
        self.assertEqual(place_of(head + text[:-1] + "b + c"), (0, 124))
        self.assertEqual(place_of(head + text + " + b"), (0, 125))
        self.assertEqual(place_of(head + " + ".join(["a"] * 60)), None)
        self.assertEqual(place_of(head + " + ".join(["a"] * 61)), (0, 125))
        self.assertEqual(place_of(head + "a + " * 60), (0, 125))

    def test_mangled_texts(self):
        rng = rng_of(11)
        for _ in range(2500):
            lines = [line.split() for line in show_loop(random_loop(rng, 3, 2, 3)).split("\n")]
            for _ in range(rng.randrange(4)):
                words = rng.choice(lines)
                at = rng.randrange(min(len(words), 9) + 1)
                words[at:at + rng.randrange(2)] = [rng.choice(ODD)] * rng.randrange(2)
                if rng.randrange(4) == 0:
                    lines.insert(rng.randrange(len(lines) + 1), list(rng.choice(lines)))
                if rng.randrange(4) == 0:
                    lines.pop(rng.randrange(len(lines)))
                    lines.append([])
            rng.shuffle(lines)
            text = "\n".join(" ".join(words) for words in lines)
            self.assertEqual(place_of(text), slow_place(text), text)

    def test_wrong(self):
        for thing in ANY:
            if isinstance(thing, str):
                self.assertIsNotNone(place_of(thing))
            else:
                with self.assertRaises(Wrong) as caught:
                    read_loop(thing)
                self.assertEqual(caught.exception.place, 0)

    def test_other_signs_part_nothing(self):
        self.assertEqual(place_of("task\ta first 0 = 1"), (0, 0))
        self.assertEqual(place_of("task a first 0 = 1\rtask"), (0, 5))
        self.assertRaises(LoopError, read_loop, "task a first 0 = 1\x0btask b first 0 = 1")


class Showing(unittest.TestCase):
    def test_text(self):
        self.assertEqual(show_loop(PAIR), "task a first 1 = round + a @ 1\ntask b first 1 = round + a")
        self.assertEqual(show_loop(BELT), "task a first 1 = round + a @ 2\ntask b first 1 = round + a + b @ 3\n"
                                          "task c first 1 = round + b\nwait a c 3")

    def test_both_ways(self):
        rng = rng_of(12)
        for _ in range(500):
            loop = random_loop(rng, 5, 4, 4)
            self.assertEqual(read_loop(check_unchanged(self, show_loop, loop)), loop)


if __name__ == "__main__":
    unittest.main()

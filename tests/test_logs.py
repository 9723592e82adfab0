"""[36]: logs, cut off anywhere and opened again; what [8] and [10] promise of them."""

import unittest

from halls import right_keepings, state_of, work_honestly
from slow import Slow
from support import ALONE, ANY, PAIR, check_unchanged, loop_of, mangled, random_live_loop, rng_of, same
from unwaited.errors import NoText, Wrong
from unwaited.forms import is_live_loop
from unwaited.hall import Hall
from unwaited.logs import everybody_falls, log_text, reopened, whole_lines

CHAIN = loop_of(("a", []), ("b", [("a", 0)]), ("c", [("b", 0), ("c", 1)]), ("a", "c", 1))
KEEPING = (2, {"a": (0, 1), "b": (2, None), "c": (0, 1)})
OWN = loop_of(("a", [("a", 1)]))


WORKERS = {str(worker): worker for worker in range(8)}
VALUES = {str(value): value for value in range(10000)}


def could_be_told(hall, line):
    """Tells a Hall what a line says, by [36] alone; returns whether it could be, and stands behind it in its LINES."""
    words = line.split(" ")
    before = hall.lines()
    try:
        if len(words) == 2 and words[0] == "ask" and words[1] in WORKERS:
            hall.ask(WORKERS[words[1]])
        elif len(words) == 3 and words[0] == "done" and words[1] in WORKERS and words[2] in VALUES:
            hall.done(WORKERS[words[1]], VALUES[words[2]])
        elif len(words) == 3 and words[0] == "fall" and words[1] in WORKERS and words[2] in VALUES:
            hall.fall(WORKERS[words[1]], VALUES[words[2]])
        elif len(words) == 3 and words[0] == "fall" and words[1] in WORKERS and words[2] == "none":
            hall.fall(WORKERS[words[1]], None)
    except ValueError:
        pass
    return hall.lines() == before + (line,)


class Texts(unittest.TestCase):
    def test_log_text(self):
        self.assertEqual(check_unchanged(self, log_text, ("ask 3", "", " x ", "fall 3 none")), "ask 3\n\n x \nfall 3 none\n")
        self.assertEqual(log_text(()), "")

    def test_whole_lines(self):
        for text, lines in (("", ()), ("\n", ("",)), ("ask 1", ()), ("ask 1\n", ("ask 1",)), ("\n\na\nb", ("", "", "a")),
                            (" a \n  \n~", (" a ", "  "))):
            self.assertEqual(whole_lines(text), lines)
            self.assertEqual(whole_lines(log_text(lines)), lines)
        for thing in ANY:
            if isinstance(thing, str):
                self.assertEqual(whole_lines(thing), tuple(thing.split("\n")[:-1]))
            else:
                with self.assertRaises(Wrong) as caught:
                    whole_lines(thing)
                self.assertEqual(caught.exception.place, 0)


class Logs(unittest.TestCase):
    def check_no_text(self, place, loop, keeping, lines):
        with self.assertRaises(NoText) as caught:
            reopened(loop, keeping, log_text(lines))
        self.assertEqual(caught.exception.place, place, lines)

    def some(self, number, many, times=30):
        rng = rng_of(number)
        for _ in range(many):
            loop = random_live_loop(rng, 4, 2, 5)
            keeping = rng.choice(right_keepings(rng, Slow(loop)))
            hall = Hall(loop, keeping)
            work_honestly(self, rng, loop, hall, times, rng.randint(1, 8))
            yield rng, loop, keeping, hall

    def test_opened_again(self):
        for rng, loop, keeping, hall in self.some(361, 80):
            text = log_text(hall.lines())
            again = check_unchanged(self, reopened, loop, keeping, text)
            self.assertIs(again == hall, True)
            self.assertTrue(same(state_of(again), state_of(hall)))
            self.assertEqual(whole_lines(text), hall.lines())
            seed = rng.random()
            work_honestly(self, rng_of(seed), loop, hall, 20)
            work_honestly(self, rng_of(seed), loop, again, 20)
            self.assertTrue(same(state_of(again), state_of(hall)))

    def test_cut_off_at_any_sign(self):
        for _, loop, keeping, hall in self.some(362, 6, 20):
            text = log_text(hall.lines())
            for end in range(len(text) + 1):
                again = reopened(loop, keeping, text[:end])
                self.assertEqual(again.lines(), hall.lines()[:text[:end].count("\n")])

    def test_on_and_on(self):
        # Cut off, opened again, all fallen or not: who is handed a STEP gets the plain VALUES.
        lost = 0
        for rng, loop, keeping, hall in self.some(363, 60):
            for _ in range(4):
                text = log_text(hall.lines())
                end = rng.randrange(len(text) // 2, len(text) + 1)
                lost += end < len(text)
                hall = reopened(loop, keeping, text[:end])
                if rng.random() < 0.5:
                    hands = hall.hands()
                    self.assertEqual(everybody_falls(hall), tuple(hands))
                work_honestly(self, rng, loop, hall, 30, rng.randint(1, 8))
        self.assertGreater(lost, 100)

    def test_everybody_falls(self):
        hall = Hall(CHAIN, KEEPING)
        self.assertEqual([everybody_falls(hall), hall.lines()], [(), ()])
        free = loop_of(("a", []), ("b", []))
        hall = Hall(free, (1, {}))
        for worker in (7, 2, 0, 5, 1, 3, 4, 6):
            hall.ask(worker)
        hall.done(5, 1)
        self.assertEqual(everybody_falls(hall), (0, 1, 2, 3, 4, 6, 7))
        self.assertEqual([hall.hands(), hall.lines()[-2:], len(hall.cut_run())], [{}, ("fall 6 none", "fall 7 none"), 1])
        self.assertEqual(everybody_falls(hall), ())
        self.assertEqual(hall.ask(3)[0], ("a", 0))

    def test_spoilt(self):
        # Lines left out, doubled, exchanged, spoilt by a sign: what can stand there, and what cannot, by [36].
        told = {False: 0, True: 0}
        for rng, loop, keeping, hall in self.some(364, 100):
            lines = list(hall.lines())
            for _ in range(12):
                spoilt = list(lines)
                at, other = rng.randrange(len(lines)), rng.randrange(len(lines))
                kind = rng.randrange(5)
                if kind == 0:
                    del spoilt[at]
                elif kind == 1:
                    spoilt.insert(at, spoilt[other])
                elif kind == 2:
                    spoilt[at], spoilt[other] = spoilt[other], spoilt[at]
                else:
                    sign = rng.choice(" 0179anone-+~x")
                    place = rng.randrange(len(spoilt[at]) + 1)
                    spoilt[at] = spoilt[at][:place] + sign + spoilt[at][place + (kind == 3):]
                model = Hall(loop, keeping)
                fault = next((place for place, line in enumerate(spoilt) if not could_be_told(model, line)), None)
                if fault is None:
                    self.assertIs(reopened(loop, keeping, log_text(spoilt)) == model, True)
                else:
                    self.check_no_text(fault, loop, keeping, spoilt)
                told[fault is None] += 1
        self.assertGreater(min(told.values()), 60)

    def test_lines_that_are_none(self):
        begin = ("ask 3", "fall 3 12")
        for line in ("", " ", "ask", "ask ", " ask 0", "ask  0", "ask 0 ", "ask 8", "ask 00", "ask 07", "ask -1", "ask +1",
                     "ask 1 2", "ask a", "Ask 0", "done", "done 3", "done 3 none", "fall 3", "none", "ask 0\t", "ask 0.0",
                     "ask 10", "asks 0", "\u0661", "ask \u0661", "ask " + "0" * 3000):
            self.check_no_text(2, CHAIN, KEEPING, begin + (line,))
            self.check_no_text(2, CHAIN, KEEPING, begin + (line, "ask 0"))
        for line in ("done 0 12", "fall 0 12", "fall 0 none"):
            # Nothing is in hand.
            self.check_no_text(2, CHAIN, KEEPING, begin + (line,))
        asked = begin + ("ask 0",)
        for line in ("ask 0", "done 0 11", "fall 0 11", "done 0 012", "done 0 +12", "done 0 12 ", "done  0 12", "done 0 10000",
                     "done 0 none", "fall 0 None", "fall 0 -1", "fall 0 none 1", "done 1 12", "done 0 " + "9" * 3000):
            self.check_no_text(3, CHAIN, KEEPING, asked + (line,))
        for line in ("done 0 12", "fall 0 12", "fall 0 none"):
            self.assertEqual(reopened(CHAIN, KEEPING, log_text(asked + (line,))).lines(), asked + (line,))

    def test_nothing_to_hand_out(self):
        keeping = (2, {"a": (0, 1)})
        self.check_no_text(1, OWN, keeping, ("ask 3", "ask 0"))
        self.check_no_text(1, OWN, keeping, ("ask 3", "ask 3"))
        self.assertEqual(reopened(OWN, keeping, "ask 3\ndone 3 1\nask 0\n").hands(), {0: ("a", 1)})

    def test_another_keeping(self):
        # A log fits each KEEPING of the LOOP: which STEPS are handed out hangs on the LOOP alone.
        rng = rng_of(365)
        for _, loop, _, hall in self.some(366, 30):
            for keeping in right_keepings(rng, Slow(loop)):
                again = reopened(loop, keeping, log_text(hall.lines()))
                self.assertEqual([again.hands(), again.marks()], [hall.hands(), hall.marks()])

    def test_no_log(self):
        for text in ("", "ask 1", "xyz"):
            self.assertIs(reopened(CHAIN, KEEPING, text) == Hall(CHAIN, KEEPING), True)
        self.assertEqual(reopened(ALONE, (1, {}), "ask 1\n").hands(), {1: ("a", 0)})

    def test_wrong_arguments(self):
        def check(place, *arguments):
            with self.assertRaises(Wrong) as caught:
                reopened(*arguments)
            self.assertEqual(caught.exception.place, place)

        for thing in ANY + mangled(PAIR):
            if not is_live_loop(thing):
                check(0, thing, KEEPING, "x\n")
                check(0, thing, thing, thing)
            check(1, CHAIN, thing, "x\n")
            check(1, CHAIN, thing, thing)
            if not isinstance(thing, str):
                check(2, CHAIN, KEEPING, thing)
        check(1, OWN, (1, {"a": (0,)}), "x\n")


if __name__ == "__main__":
    unittest.main()

"""[38]: a loop that is changed."""

import copy
import unittest

from slow import Slow
from support import ALONE, ANY, BELT, PAIR, check_unchanged, loop_of, mangled, random_expression, random_live_loop
from support import random_loop, rng_of, same, slow_is_live, slow_reads
from test_covers import needless_as_said
from unwaited.arcs import dead_ring
from unwaited.errors import Dead, LoopError, NoTask, Nothing, Wrong
from unwaited.forms import is_live_loop, is_loop, is_name, is_task, is_wait
from unwaited.kept import Kept
from unwaited.looptexts import read_loop
from unwaited.matchings import fewest_cells, least_matching
from unwaited.stairs import stair

SUM = read_loop("task a first 7 = a @ 1 + 1\ntask b first 0 = a * 2 + b @ 1\nwait a b 1")


def state_of(kept):
    return (kept.loop(), kept.worths(), kept.is_cut(), kept.changes())


class Model:
    """A Kept by [38], that keeps copies of all that it ever was."""

    def __init__(self, loop):
        self.now = {"tasks": {name: (first, body) for name, first, body in loop[0]}, "waits": set(loop[1]),
                    "worths": {}, "is_cut": False}
        self.weigh_all(self.now)
        self.past = []

    def loop(self, now=None):
        now = now or self.now
        return (tuple((name, *now["tasks"][name]) for name in sorted(now["tasks"])), tuple(sorted(now["waits"])))

    def readers(self, now):
        return {(read, name) for name, (_, body) in now["tasks"].items() for read, _ in slow_reads(body)}

    def weigh_all(self, now):
        read = {name for name, _ in self.readers(now)}
        now["worths"] = {name: now["worths"].get(name, 1) for name in sorted(read)}

    def state(self):
        return (self.loop(), self.now["worths"], self.now["is_cut"], len(self.past))

    def change(self, word, *given):
        """Does a change; raises what a Kept has to raise."""
        then = copy.deepcopy(self.now)
        getattr(self, word)(then, *given)
        if not slow_is_live(self.loop(then)):
            raise Dead(dead_ring(self.loop(then)))
        self.weigh_all(then)
        if then != self.now:
            self.past.append(self.now)
            self.now = then

    def put_task(self, then, task):
        then["tasks"][task[0]] = task[1:]
        lacking = sorted(name for name, _ in slow_reads(task[2]) if name not in then["tasks"])
        if lacking:
            raise NoTask(lacking[0])

    def strike_task(self, then, name):
        if name not in then["tasks"]:
            raise NoTask(name)
        if any(read == name != other for read, other in self.readers(then)) or len(then["tasks"]) == 1:
            raise Nothing()
        del then["tasks"][name]
        then["waits"] = {wait for wait in then["waits"] if name not in wait[:2]}

    def put_wait(self, then, wait):
        lacking = sorted(name for name in wait[:2] if name not in then["tasks"])
        if lacking:
            raise NoTask(lacking[0])
        then["waits"].add(wait)

    def strike_wait(self, then, wait):
        if wait not in then["waits"]:
            raise Nothing()
        then["waits"].remove(wait)

    def strike_needless(self, then):
        then["waits"] -= set(needless_as_said(Slow(self.loop())))

    def weigh(self, then, name, worth):
        if name not in then["worths"]:
            raise NoTask(name)
        then["worths"][name] = worth

    def set_cut(self, then, is_cut):
        then["is_cut"] = is_cut

    def undo(self):
        if not self.past:
            raise Nothing()
        self.now = self.past.pop()


def random_change(rng, loop):
    """A change of a loop, not always one that can be made, as a tuple of a method's name and its arguments."""
    names = [task[0] for task in loop[0]] + ["e", "f"]
    wait = (rng.choice(names[:-1]), rng.choice(names[:-1]), rng.randrange(3))
    kind = rng.randrange(10)
    if kind < 2:
        return "put_task", (rng.choice(names), rng.randrange(9), random_expression(rng, rng.choice((names[:-2], names)), 2, 2))
    if kind == 2:
        return "put_task", rng.choice(loop[0])
    if kind == 3:
        return "strike_task", rng.choice(names)
    if kind == 4:
        return "put_wait", rng.choice((wait,) + loop[1])
    if kind == 5:
        return "strike_wait", rng.choice((wait,) + loop[1] * 3)
    if kind == 6:
        return ("strike_needless",)
    if kind == 7:
        return "weigh", rng.choice(names), rng.choice((0, 1, 2, 1000))
    if kind == 8:
        return "set_cut", rng.random() < 0.5
    return ("undo",)


class Changes(unittest.TestCase):
    def check_change(self, kept, model, change):
        """Changes both; they must do, or refuse, the same. Returns the class of the error, if there is one."""
        before = state_of(kept)
        word, *given = change
        try:
            model.undo() if word == "undo" else model.change(word, *given)
        except LoopError as refused:
            with self.assertRaises(type(refused), msg=(before, change)) as caught:
                getattr(kept, word)(*given)
            self.assertEqual(vars(caught.exception), vars(refused))
            self.assertEqual(state_of(kept), before)
            return type(refused)
        self.assertIsNone(check_given(self, getattr(kept, word), given))
        self.assertTrue(same(state_of(kept), model.state()), (before, change, state_of(kept), model.state()))
        self.assertEqual(list(kept.worths()), sorted(kept.worths()))
        return None

    def test_as_said(self):
        rng = rng_of(381)
        told = {}
        for _ in range(150):
            loop = random_live_loop(rng, 4, 2, 4)
            kept, model = Kept(loop), Model(loop)
            self.assertTrue(same(state_of(kept), model.state()))
            for _ in range(25):
                change = random_change(rng, kept.loop())
                many = kept.changes()
                error = self.check_change(kept, model, change)
                kind = (change[0], error or (kept.changes() - many))
                told[kind] = told.get(kind, 0) + 1
            while kept.changes():
                self.check_change(kept, model, ("undo",))
            self.assertEqual(self.check_change(kept, model, ("undo",)), Nothing)
            self.assertEqual(state_of(kept), (loop, Model(loop).now["worths"], False, 0))
        expected = {("put_task", 1), ("put_task", 0), ("put_task", NoTask), ("put_task", Dead), ("strike_task", 1),
                    ("strike_task", NoTask), ("strike_task", Nothing), ("put_wait", 1), ("put_wait", 0), ("put_wait", NoTask),
                    ("put_wait", Dead), ("strike_wait", 1), ("strike_wait", Nothing), ("strike_needless", 1),
                    ("strike_needless", 0), ("weigh", 1), ("weigh", 0), ("weigh", NoTask), ("set_cut", 1), ("set_cut", 0),
                    ("undo", -1), ("undo", Nothing)}
        self.assertEqual(set(told), expected)
        self.assertGreater(min(told.values()), 10, told)

    def test_what_it_answers(self):
        rng = rng_of(382)
        for _ in range(40):
            kept = Kept(random_live_loop(rng, 4, 2, 6))
            for _ in range(4):
                word, *given = random_change(rng, kept.loop())
                try:
                    getattr(kept, word)(*given)
                except LoopError:
                    pass
            for is_cut in (False, True):
                kept.set_cut(is_cut)
                self.assertIs(kept.is_cut(), is_cut)
                self.assertEqual(kept.cells(), fewest_cells(kept.loop(), is_cut))
                self.assertEqual(kept.matching(), least_matching(kept.loop(), is_cut))
                for m in (0, 1, 5, 60, 10 ** 39):
                    self.assertEqual(kept.share(m), stair(kept.loop(), kept.worths(), m, is_cut))

    def test_several_errors_at_once(self):
        kept = Kept(loop_of(("a", []), ("b", [("a", 0)])))
        # A name that no task has, ahead of a LOOP that is not LIVE; of several the least.
        for change, error, field in (
                (("put_task", ("a", 0, ("two", "+", ("read", "b", 0), ("read", "c", 0)))), NoTask, "c"),
                (("put_task", ("a", 0, ("two", "+", ("read", "z", 0), ("if", ("read", "d", 9), ("read", "b", 0), ("round",))))),
                 NoTask, "d"),
                (("put_wait", ("z", "d", 0)), NoTask, "d"), (("put_wait", ("z", "a", 0)), NoTask, "z"),
                (("put_wait", ("c", "c", 0)), NoTask, "c"), (("strike_task", "c"), NoTask, "c"),
                (("weigh", "b", 3), NoTask, "b"), (("weigh", "z", 3), NoTask, "z")):
            with self.assertRaises(error) as caught:
                getattr(kept, change[0])(*change[1:])
            self.assertEqual(caught.exception.name, field)
        with self.assertRaises(Dead) as caught:
            kept.put_task(("a", 0, ("two", "+", ("read", "b", 0), ("read", "a", 0))))
        self.assertEqual(caught.exception.ring, (("a", "a", 0),))
        with self.assertRaises(Dead) as caught:
            kept.put_wait(("a", "b", 0))
        self.assertEqual(caught.exception.ring, (("a", "b", 0), ("b", "a", 0)))
        self.assertEqual(state_of(kept), (loop_of(("a", []), ("b", [("a", 0)])), {"a": 1}, False, 0))

    def test_a_task_reads_itself_anew(self):
        kept = Kept(ALONE)
        kept.put_task(("a", 3, ("read", "a", 1)))
        self.assertEqual(kept.worths(), {"a": 1})
        kept.weigh("a", 9)
        kept.put_task(("a", 3, ("read", "a", 2)))
        self.assertEqual(kept.worths(), {"a": 9})
        kept.put_task(("a", 3, ("round",)))
        self.assertEqual(kept.worths(), {})
        self.assertRaises(NoTask, kept.weigh, "a", 9)
        kept.put_task(("a", 3, ("read", "a", 2)))
        self.assertEqual(kept.worths(), {"a": 1})
        kept.undo()
        kept.undo()
        self.assertEqual([kept.worths(), kept.changes()], [{"a": 9}, 3])
        # It reads itself alone: it may be struck, if another one is there.
        self.assertRaises(Nothing, kept.strike_task, "a")
        kept.put_task(("b", 1, ("round",)))
        kept.strike_task("a")
        self.assertEqual([kept.loop(), kept.worths()], [((("b", 1, ("round",)),), ()), {}])
        self.assertRaises(Nothing, kept.strike_task, "b")
        self.assertRaises(NoTask, kept.strike_task, "a")

    def test_struck_with_its_waits(self):
        kept = Kept(BELT)
        kept.strike_task("c")
        self.assertEqual(kept.loop(), (BELT[0][:2], ()))
        self.assertEqual(kept.worths(), {"a": 1, "b": 1})
        self.assertRaises(Nothing, kept.strike_task, "a")
        kept.strike_task("b")
        self.assertEqual([kept.loop(), kept.worths()], [(BELT[0][:1], ()), {"a": 1}])
        for _ in range(2):
            kept.undo()
        self.assertEqual([kept.loop(), kept.worths(), kept.changes()], [BELT, {"a": 1, "b": 1}, 0])
        self.assertRaises(Nothing, kept.undo)

    def test_needless_ones_all_at_once(self):
        loop = loop_of(("a", []), ("b", [("a", 0)]), ("a", "a", 1), ("a", "a", 2), ("a", "a", 3), ("b", "a", 0), ("b", "a", 1))
        kept = Kept(loop)
        kept.strike_needless()
        self.assertEqual([kept.loop()[1], kept.changes()], [(("a", "a", 1),), 1])
        kept.strike_needless()
        self.assertEqual(kept.changes(), 1)
        kept.undo()
        self.assertEqual(kept.loop(), loop)

    def test_changed_and_changed_back(self):
        kept = Kept(SUM)
        kept.set_cut(True)
        kept.set_cut(True)
        kept.set_cut(False)
        self.assertEqual(kept.changes(), 2)
        kept.undo()
        self.assertIs(kept.is_cut(), True)
        kept.weigh("a", 0)
        kept.undo()
        kept.undo()
        self.assertEqual([kept.is_cut(), kept.worths(), kept.changes()], [False, {"a": 1, "b": 1}, 0])

    def test_what_is_returned_is_new(self):
        kept = Kept(SUM)
        kept.worths()["a"] = 5
        kept.matching().clear()
        self.assertEqual([kept.worths(), kept.matching()], [{"a": 1, "b": 1}, {"a": "a", "b": "b"}])
        before = kept.worths()
        kept.weigh("a", 4)
        self.assertEqual(before, {"a": 1, "b": 1})


def check_given(case, call, given):
    """Calls once; the arguments stay as they were."""
    before = copy.deepcopy(given)
    told = call(*given)
    case.assertTrue(same(before, given))
    return told


class Twins(unittest.TestCase):
    def test_they_go_on_by_themselves(self):
        rng = rng_of(383)
        for _ in range(80):
            kept = Kept(random_live_loop(rng, 4, 2, 4))
            self.change_some(rng, kept)
            other = kept.twin()
            self.assertIs(kept == other, True)
            self.assertIs(kept != other, False)
            self.assertEqual(state_of(kept), state_of(other))
            before = state_of(kept)
            self.change_some(rng, other)
            self.assertEqual(state_of(kept), before)
            if state_of(kept) != state_of(other):
                self.assertIs(kept == other, False)
            third = kept.twin()
            self.change_some(rng, kept)
            while third.changes():
                third.undo()
            self.assertEqual(third.is_cut(), False)

    def change_some(self, rng, kept):
        for _ in range(6):
            word, *given = random_change(rng, kept.loop())
            try:
                getattr(kept, word)(*given)
            except LoopError:
                pass

    def test_equal_and_unequal(self):
        self.assertIs(Kept(SUM) == Kept(SUM), True)
        self.assertIs(Kept(SUM) == Kept(PAIR), False)
        one, other = Kept(SUM), Kept(SUM)
        one.set_cut(True)
        self.assertIs(one == other, False)
        other.set_cut(True)
        self.assertIs(one == other, True)
        # The same is kept, but undo brings back something else.
        one.set_cut(False)
        self.assertEqual(state_of(one)[:3], state_of(Kept(SUM))[:3])
        self.assertIs(one == Kept(SUM), False)
        one.undo()
        self.assertIs(one == other, True)
        one.weigh("a", 5)
        one.weigh("b", 6)
        other.weigh("b", 6)
        other.weigh("a", 5)
        self.assertEqual(state_of(one), state_of(other))
        self.assertIs(one == other, False)
        for kept in (one, other):
            for _ in range(3):
                kept.undo()
        self.assertIs(one == other, True)
        # What has been taken back counts no more.
        self.assertIs(one == Kept(SUM), True)

    def test_nothing_else_is_equal(self):
        kept = Kept(SUM)
        for thing in ANY + [SUM, (SUM, {"a": 1, "b": 1}, False), [kept], Kept]:
            self.assertIs(kept == thing, False)
            self.assertIs(thing == kept, False)
            self.assertIs(kept != thing, True)


class Wrongs(unittest.TestCase):
    def check_wrong(self, place, call, *arguments):
        with self.assertRaises(Wrong) as caught:
            call(*arguments)
        self.assertEqual(caught.exception.place, place, arguments)

    def test_loops(self):
        rng = rng_of(384)
        for thing in ANY + mangled(PAIR):
            if not is_loop(thing):
                self.check_wrong(0, Kept, thing)
            elif is_live_loop(thing):
                self.assertEqual(check_unchanged(self, lambda loop: Kept(loop).loop(), thing), thing)
        dead = 0
        for _ in range(200):
            loop = random_loop(rng, 4, 1, 4)
            if not slow_is_live(loop):
                with self.assertRaises(Dead) as caught:
                    Kept(loop)
                self.assertEqual(caught.exception.ring, dead_ring(loop))
                dead += 1
        self.assertGreater(dead, 30)

    def test_any_values(self):
        kept = Kept(SUM)
        kept.set_cut(True)
        before = state_of(kept)
        task, wait = SUM[0][0], ("a", "b", 1)
        for thing in ANY + mangled(task) + mangled(wait) + mangled("a") + [1000, 1001, 1, 0, -1]:
            if not is_task(thing):
                self.check_wrong(0, kept.put_task, thing)
            if not is_wait(thing):
                self.check_wrong(0, kept.put_wait, thing)
                self.check_wrong(0, kept.strike_wait, thing)
            if not is_name(thing):
                self.check_wrong(0, kept.strike_task, thing)
                # Ahead of what is wrong with the second one, and of NoTask(..).
                for worth in (5, 1001, None, thing):
                    self.check_wrong(0, kept.weigh, thing, worth)
            if type(thing) is not int or not 0 <= thing <= 1000:
                self.check_wrong(1, kept.weigh, "a", thing)
                self.check_wrong(1, kept.weigh, "z", thing)
            if type(thing) is not bool:
                self.check_wrong(0, kept.set_cut, thing)
            if type(thing) is not int or thing < 0:
                self.check_wrong(0, kept.share, thing)
        self.assertEqual(state_of(kept), before)
        self.assertEqual([kept.loop(), kept.changes()], [SUM, 1])


if __name__ == "__main__":
    unittest.main()
